/-
  The document's own words, Line.
-/
import Derived.Test.YtkjcppnnfakjkaaDoorTRL
import Derived.Test.YtkjcppnnfakjkaaDoorTDec
import Derived.Deep.RegionHeld3
import Derived.Deep.DrawnRows
import Derived.Deep.DeepCutAuto
namespace Go.Proofs.YtkjcppnnfakjkaaDoor
open Go.RowKit
set_option linter.unusedVariables false
attribute [local go_sem ↓] Go.wp_at_zero Go.wp_at_succ

def rwordsCs : Array Value := (rwords.map fun l => Value.string (bsOf l)).toArray
set_option maxRecDepth 100000 in
theorem words_any (w : World) :
    Calls Tryd.prog 18 #[] w fun e w' => e = .returned (.slice (some ⟨w.heap.size, 0, none⟩) 23 23) ∧ w' = w.alloc (.cells rwordsCs 9) := by
  go_enter Tryd.func18, Tryd.ntmps18
  go_wp2
  go_ret
  exact ⟨rfl, rfl⟩

theorem rword_cell (op : Int) (h0 : 1 ≤ op) (h1 : op ≤ 22) : rwordsCs[op.toNat]? = some (.string (bsOf (rwords.getD op.toNat []))) := by
  obtain ⟨k, rfl⟩ : ∃ k : Nat, op = (k : Int) := ⟨op.toNat, by omega⟩
  have hk : k < 23 := by omega
  unfold rwordsCs
  rw [Int.toNat_natCast, List.getElem?_toArray, List.getElem?_map]
  have hl : k < rwords.length := hk
  rw [List.getElem?_eq_getElem hl, List.getD_eq_getElem?_getD, List.getElem?_eq_getElem hl]
  rfl

theorem rword_short (op b : Int) : (rword op b).length ≤ 6 := by
  unfold rword
  split
  · decide
  · rw [List.getD_eq_getElem?_getD]
    have h : ∀ l ∈ rwords, l.length ≤ 6 := by decide
    cases hq : rwords[op.toNat]? with
    | none => simp
    | some l => exact h l (List.mem_of_getElem? hq)
theorem seg_short (g : Bool) {v : Int} (h : nOk v) : (seg g v).length ≤ 22 := by
  unfold seg
  split
  · have := Lib.itoa_length_le v h.lo h.hi
    simp only [List.length_cons]; omega
  · simp
theorem seg_no (l : List UInt8) (v : Int) : l ++ seg false v = l := by simp [seg]
theorem seg_yes (l : List UInt8) (v : Int) : bsOf l ++ (⟨#[32]⟩ ++ bsOf (Lib.itoa v)) = bsOf (l ++ seg true v) := by
  apply ByteArray.ext
  simp [bsOf, seg]

/-- A piece of the line, laid behind it. -/
structure LineAt (w : World) (i : Ins) (wx : World) : Prop where
  box : InsAt wx w.heap.size 0 i
  below : Below w.heap.size w wx
theorem LineAt.later {w W W' : World} {i : Ins} (h : LineAt w i W) (hb : Below W.heap.size W W') : LineAt w i W' :=
  ⟨h.box.keep (hb.block _ h.box.lt), bthen h.below hb⟩

set_option maxRecDepth 100000 in
set_option maxHeartbeats 8000000 in
theorem refLine_yes (i : Ins) (hi : i.ok) (hm : mayB i = true) (w : World) :
    Calls Tryd.prog 8 #[i.v] w fun e w' => e = .returned (.tuple #[.string (bsOf (refL i)), .bool true]) ∧ Below w.heap.size w w' := by
  have HI := hid hi
  have ho : opB i.op = true := by
    unfold mayB at hm
    simp only [Bool.and_eq_true] at hm
    exact hm.1.1.1.1
  have MI := fun W => MayInstr_any i W
  rw [hm] at MI
  obtain ⟨op, a, b, c, n⟩ := i
  dsimp only at ho
  have FC := fun W => fields_any op W ho
  obtain ⟨o1, o2⟩ := of_decide_eq_true ho
  have HMI := hid MI
  have HFC := hid FC
  have HRC := hid (rword_cell op o1 o2)
  have HBX : Hid (LineAt w ⟨op, a, b, c, n⟩ (w.alloc (.cells #[.int .i64 op, .int .i64 a, .int .i64 b, .int .i64 c, .int .i64 n] 29))) := hid (by
    have := heap_alloc_new w (.cells #[.int .i64 op, .int .i64 a, .int .i64 b, .int .i64 c, .int .i64 n] 29)
    exact ⟨⟨cell_of_blk this 0, cell_of_blk this 1, cell_of_blk this 2, cell_of_blk this 3, cell_of_blk this 4⟩, bnew (bid w) _⟩)
  show Calls _ _ #[.agg #[.int .i64 op, .int .i64 a, .int .i64 b, .int .i64 c, .int .i64 n]] _ _
  clear MI FC ho hi hm
  have HRL := hid (show refL ⟨op, a, b, c, n⟩ = rword op b ++ seg (decide (0 < fA op)) a ++ seg (decide (0 < rB op)) b ++ seg (decide (0 < fC op)) c ++ seg (freeB op) n from rfl)
  have HRB := hid (show rB op = if op = 13 then 0 else fB op from rfl)
  generalize refL ⟨op, a, b, c, n⟩ = rl at HRL ⊢
  have HWD := hid (show rword op b = if op = 13 ∧ b = 1 then [114, 101, 97, 100] else rwords.getD op.toNat [] from rfl)
  have HWL := hid (rword_short op b)
  generalize rword op b = rw0 at HRL HWD HWL
  generalize rwords.getD op.toNat [] = r0 at HWD HRC
  generalize fA op = la at HFC HRL
  generalize rB op = rb at HRL HRB
  generalize fB op = lb at HFC HRB
  generalize fC op = lc at HFC HRL
  generalize freeB op = fr at HFC HRL
  go_enter Tryd.func8, Tryd.ntmps8
  go_upto_region 4 with (first | (go_at_call 16; (with_reducible refine (HMI.out _).mono ?_); rintro e w1 ⟨rfl, b1⟩; have HB1 := hid (HBX.out.later b1); obtain ⟨c1, g1, s1⟩ := bcell b1 (size_alloc1 _ _); clear b1) | (go_at_call 17; (with_reducible refine (HFC.out _).mono ?_); rintro e w' ⟨rfl, rfl⟩))
  refine wp_rename (fun W => LineAt w ⟨op, a, b, c, n⟩ W) HB1.out ?_
  intro W hW
  have HW := hid hW
  obtain ⟨c0, -, c2, -, -⟩ := hW.box
  rw [Nat.zero_add] at c2
  dsimp only at c0 c2
  have HKP := hid (fun (W' : World) (hb : Below W.heap.size W W') => (hb.cell (p := ⟨w.heap.size, 0, none⟩) HW.out.box.lt).trans c0)
  have n1 : (0 : Int) ≤ op := by omega
  have n2 : op < 23 := by omega
  clear hW c1 g1 s1 HB1 HBX o1 o2
  have HRW : Hid (∀ W' : World, (W'.alloc (.cells rwordsCs 9)).cell? ⟨W'.heap.size, op.toNat, none⟩ = some (.string (bsOf r0))) := hid fun W' => by rw [World.cell?_alloc_at _ _ _ _ rfl]; exact HRC.out
  have hrw := HRW.out
  refine wp_region_noPanic ?_
  refine wp_region_held_drew (S := fun w' => w'.cell? ⟨w.heap.size, 0, none⟩ = some (.int .i64 op)) (by kernel_rfl) (HKP.out _ (bdrew (bid W))) (fun hHeld => ?_)
  refine wpAnyH_take (i := 1) (v := ?_) rfl (by kernel_rfl) (by kernel_rfl) (by kernel_rfl) (fun _ _ _ h => h) (Or.inl ⟨by rfl, ?_⟩) (by assumption) ?_
  rotate_left
  · (intro w' hSw; (try dsimp only at hSw); go_simp; try (with_reducible rfl))
  (try simp only [Act.put, List.getElem_toArray, List.getElem_cons_zero, List.getElem_cons_succ, List.setIfInBounds_toArray, List.set_cons_zero, List.set_cons_succ])
  refine wpAnyH_take (i := 2) (v := ?_) rfl (by kernel_rfl) (by kernel_rfl) (by kernel_rfl) (fun _ _ _ h => h) (Or.inl ⟨by rfl, ?_⟩) (by assumption) ?_
  rotate_left
  · (intro w' hSw; (try dsimp only at hSw); go_simp; try (with_reducible rfl))
  (try simp only [Act.put, List.getElem_toArray, List.getElem_cons_zero, List.getElem_cons_succ, List.setIfInBounds_toArray, List.set_cons_zero, List.set_cons_succ])
  refine wpAnyH_ready (rs := [0]) (by kernel_rfl) (by simp) (AllReadyH.cons rfl (fun KK hK => ?_) AllReadyH.nil)
  go_simp
  go_at_call 18
  refine (words_any _).mono ?_
  rintro e w' ⟨rfl, rfl⟩
  dsimp only
  refine hK.out _ _ (HKP.out _ (bnew (bdrew (bid W)) _)) (fun hHeld => ?_)
  clear hK KK
  (try simp only [Act.put, List.getElem_toArray, List.getElem_cons_zero, List.getElem_cons_succ, List.setIfInBounds_toArray, List.set_cons_zero, List.set_cons_succ])
  refine wpAnyH_take (i := 3) (v := ?_) rfl (by kernel_rfl) (by kernel_rfl) (by kernel_rfl) (fun _ _ _ h => h) (Or.inl ⟨by rfl, ?_⟩) (by assumption) ?_
  rotate_left
  · (intro w' hSw; (try dsimp only at hSw); go_simp; try (with_reducible rfl))
  (try simp only [Act.put, List.getElem_toArray, List.getElem_cons_zero, List.getElem_cons_succ, List.setIfInBounds_toArray, List.set_cons_zero, List.set_cons_succ])
  refine wpAnyH_ready (rs := [4]) (by kernel_rfl) (by simp) (AllReadyH.cons rfl (fun KK hK => ?_) AllReadyH.nil)
  have hrw2 := hrw W.drew
  go_simp
  refine hK.out _ _ (HKP.out _ (bnew (bdrew (bid W)) _)) (fun hHeld => ?_)
  clear hK KK
  (try simp only [Act.put, List.getElem_toArray, List.getElem_cons_zero, List.getElem_cons_succ, List.setIfInBounds_toArray, List.set_cons_zero, List.set_cons_succ])
  refine wpAnyH_take (i := 5) (v := ?_) rfl (by kernel_rfl) (by kernel_rfl) (by kernel_rfl) (fun _ _ _ h => h) (Or.inl ⟨by rfl, ?_⟩) (by assumption) ?_
  rotate_left
  · (intro w' hSw; (try dsimp only at hSw); go_simp; try (with_reducible rfl))
  (try simp only [Act.put, List.getElem_toArray, List.getElem_cons_zero, List.getElem_cons_succ, List.setIfInBounds_toArray, List.set_cons_zero, List.set_cons_succ])
  refine wpAnyH_done (by kernel_rfl) ?_ _
  refine NoPanic.normal ?_
  clear hrw hrw2 hHeld c0 c2 n1 n2
  go_upto_region 5 with fail
  refine wp_rename (fun W => LineAt w ⟨op, a, b, c, n⟩ W) (HW.out.later (bdrew (bnew (bid W) _))) ?_
  intro W2 hW
  have HW2 := hid hW
  obtain ⟨c0, c1, c2, c3, c4⟩ := hW.box
  rw [Nat.zero_add] at c1 c2 c3 c4
  dsimp only at c0 c1 c2 c3 c4
  clear hW
  go_upto_if 27 with fail
  go_cut [5, 8] (fun s5 s8 wx => (s5 = .int .i64 rb ∧ s8 = .string (bsOf rw0)) ∧ wx = W2)
  case first =>
    by_cases h13 : op = 13
    · have q13 : (op == 13) = true := by simpa using h13
      have HQ := hid (show rb = 0 by rw [HRB.out, if_pos h13])
      by_cases hb1 : b = 1
      · have qb : (b == 1) = true := by simpa using hb1
        have HQ2 := hid (show rw0 = [114, 101, 97, 100] by rw [HWD.out, if_pos ⟨h13, hb1⟩])
        clear h13 hb1
        go_wp2
        go_meet
        case rel => exact ⟨⟨by rw [HQ.out] <;> rfl, by rw [HQ2.out] <;> rfl⟩, rfl⟩
      · have qb : (b == 1) = false := by simpa using hb1
        have HQ2 := hid (show rw0 = r0 by rw [HWD.out, if_neg (fun h => hb1 h.2)])
        clear h13 hb1
        go_wp2
        go_meet
        case rel => exact ⟨⟨by rw [HQ.out] <;> rfl, by rw [HQ2.out] <;> rfl⟩, rfl⟩
    · have q13 : (op == 13) = false := by simpa using h13
      have HQ := hid (show rb = lb by rw [HRB.out, if_neg h13])
      have HQ2 := hid (show rw0 = r0 by rw [HWD.out, if_neg (fun h => h13 h.1)])
      clear h13
      go_wp2
      go_meet
      case rel => exact ⟨⟨by rw [HQ.out] <;> rfl, by rw [HQ2.out] <;> rfl⟩, rfl⟩
  case rest =>
  obtain ⟨⟨rfl, rfl⟩, rfl⟩ := hcut
  go_upto_if 32 with fail
  obtain ⟨p0, hp0⟩ : ∃ p, p = rw0 ++ seg (decide (0 < la)) a := ⟨_, rfl⟩
  have HP0 := hid hp0
  have HL0 := hid (show p0.length ≤ 28 by rw [hp0, List.length_append]; have h1 := seg_short (decide (0 < la)) HI.out.a; have h2 := HWL.out; dsimp only at h1; omega)
  clear hp0
  go_cut [8] (fun s8 wx => s8 = .string (bsOf p0) ∧ LineAt w ⟨op, a, b, c, n⟩ wx)
  case first =>
    have hlen : ¬ 9223372036854775807 < (bsOf rw0).size + (1 + (bsOf (Lib.itoa a)).size) := by
      have h1 := HWL.out
      have h2 := Lib.itoa_length_le a HI.out.a.lo HI.out.a.hi
      rw [bsOf_size, bsOf_size]; omega
    have hap := seg_yes rw0 a
    by_cases hg : 0 < la
    · have HQ := hid (show p0 = rw0 ++ seg true a by rw [HP0.out, decide_eq_true hg])
      go_wp2_with (go_at_call 19; (with_reducible refine (Decimal_all a HI.out.a _).mono ?_); rintro e w7 ⟨rfl, b7⟩; have HX := hid (HW2.out.later b7); clear b7)
      go_meet
      case rel => exact ⟨by rw [HQ.out, ← hap] <;> rfl, HX.out⟩
    · have HQ := hid (show p0 = rw0 by rw [HP0.out, decide_eq_false hg, seg_no])
      clear hap hlen
      go_wp2
      go_meet
      case rel => exact ⟨by rw [HQ.out] <;> rfl, HW2.out⟩
  case rest =>
  obtain ⟨rfl, hW⟩ := hcut
  clear c0 c1 c2 c3 c4
  have HW3 := hid hW
  obtain ⟨c0, c1, c2, c3, c4⟩ := hW.box
  rw [Nat.zero_add] at c1 c2 c3 c4
  dsimp only at c0 c1 c2 c3 c4
  clear hW
  go_upto_if 40 with fail
  obtain ⟨p1, hp1⟩ : ∃ p, p = p0 ++ seg (decide (0 < rb)) b := ⟨_, rfl⟩
  have HP1 := hid hp1
  have HL1 := hid (show p1.length ≤ 50 by rw [hp1, List.length_append]; have h1 := seg_short (decide (0 < rb)) HI.out.b; have h2 := HL0.out; dsimp only at h1; omega)
  clear hp1
  go_cut [8] (fun s8 wx => s8 = .string (bsOf p1) ∧ LineAt w ⟨op, a, b, c, n⟩ wx)
  case first =>
    have hlen : ¬ 9223372036854775807 < (bsOf p0).size + (1 + (bsOf (Lib.itoa b)).size) := by
      have h1 := HL0.out
      have h2 := Lib.itoa_length_le b HI.out.b.lo HI.out.b.hi
      rw [bsOf_size, bsOf_size]; omega
    have hap := seg_yes p0 b
    by_cases hg : 0 < rb
    · have HQ := hid (show p1 = p0 ++ seg true b by rw [HP1.out, decide_eq_true hg])
      go_wp2_with (go_at_call 19; (with_reducible refine (Decimal_all b HI.out.b _).mono ?_); rintro e w7 ⟨rfl, b7⟩; have HX := hid (HW3.out.later b7); clear b7)
      go_meet
      case rel => exact ⟨by rw [HQ.out, ← hap] <;> rfl, HX.out⟩
    · have HQ := hid (show p1 = p0 by rw [HP1.out, decide_eq_false hg, seg_no])
      clear hap hlen
      go_wp2
      go_meet
      case rel => exact ⟨by rw [HQ.out] <;> rfl, HW3.out⟩
  case rest =>
  obtain ⟨rfl, hW⟩ := hcut
  clear c0 c1 c2 c3 c4
  have HW4 := hid hW
  obtain ⟨c0, c1, c2, c3, c4⟩ := hW.box
  rw [Nat.zero_add] at c1 c2 c3 c4
  dsimp only at c0 c1 c2 c3 c4
  clear hW
  go_upto_if 48 with fail
  obtain ⟨p2, hp2⟩ : ∃ p, p = p1 ++ seg (decide (0 < lc)) c := ⟨_, rfl⟩
  have HP2 := hid hp2
  have HL2 := hid (show p2.length ≤ 72 by rw [hp2, List.length_append]; have h1 := seg_short (decide (0 < lc)) HI.out.c; have h2 := HL1.out; dsimp only at h1; omega)
  clear hp2
  go_cut [8] (fun s8 wx => s8 = .string (bsOf p2) ∧ LineAt w ⟨op, a, b, c, n⟩ wx)
  case first =>
    have hlen : ¬ 9223372036854775807 < (bsOf p1).size + (1 + (bsOf (Lib.itoa c)).size) := by
      have h1 := HL1.out
      have h2 := Lib.itoa_length_le c HI.out.c.lo HI.out.c.hi
      rw [bsOf_size, bsOf_size]; omega
    have hap := seg_yes p1 c
    by_cases hg : 0 < lc
    · have HQ := hid (show p2 = p1 ++ seg true c by rw [HP2.out, decide_eq_true hg])
      go_wp2_with (go_at_call 19; (with_reducible refine (Decimal_all c HI.out.c _).mono ?_); rintro e w7 ⟨rfl, b7⟩; have HX := hid (HW4.out.later b7); clear b7)
      go_meet
      case rel => exact ⟨by rw [HQ.out, ← hap] <;> rfl, HX.out⟩
    · have HQ := hid (show p2 = p1 by rw [HP2.out, decide_eq_false hg, seg_no])
      clear hap hlen
      go_wp2
      go_meet
      case rel => exact ⟨by rw [HQ.out] <;> rfl, HW4.out⟩
  case rest =>
  obtain ⟨rfl, hW⟩ := hcut
  clear c0 c1 c2 c3 c4
  have HW5 := hid hW
  obtain ⟨c0, c1, c2, c3, c4⟩ := hW.box
  rw [Nat.zero_add] at c1 c2 c3 c4
  dsimp only at c0 c1 c2 c3 c4
  clear hW
  go_upto_if 55 with fail
  obtain ⟨p3, hp3⟩ : ∃ p, p = p2 ++ seg (fr) n := ⟨_, rfl⟩
  have HP3 := hid hp3
  have HL3 := hid (show p3.length ≤ 94 by rw [hp3, List.length_append]; have h1 := seg_short (fr) HI.out.n; have h2 := HL2.out; dsimp only at h1; omega)
  clear hp3
  go_cut [8] (fun s8 wx => s8 = .string (bsOf p3) ∧ LineAt w ⟨op, a, b, c, n⟩ wx)
  case first =>
    have hlen : ¬ 9223372036854775807 < (bsOf p2).size + (1 + (bsOf (Lib.itoa n)).size) := by
      have h1 := HL2.out
      have h2 := Lib.itoa_length_le n HI.out.n.lo HI.out.n.hi
      rw [bsOf_size, bsOf_size]; omega
    have hap := seg_yes p2 n
    cases fr
    case true =>
      have HQ := hid (show p3 = p2 ++ seg true n from HP3.out)
      go_wp2_with (go_at_call 19; (with_reducible refine (Decimal_all n HI.out.n _).mono ?_); rintro e w7 ⟨rfl, b7⟩; have HX := hid (HW5.out.later b7); clear b7)
      go_meet
      case rel => exact ⟨by rw [HQ.out, ← hap] <;> rfl, HX.out⟩
    case false =>
      have HQ := hid (show p3 = p2 by rw [HP3.out, seg_no])
      clear hap hlen
      go_wp2
      go_meet
      case rel => exact ⟨by rw [HQ.out] <;> rfl, HW5.out⟩
  case rest =>
  obtain ⟨rfl, hW⟩ := hcut
  clear c0 c1 c2 c3 c4
  have HW6 := hid hW
  obtain ⟨c0, c1, c2, c3, c4⟩ := hW.box
  rw [Nat.zero_add] at c1 c2 c3 c4
  dsimp only at c0 c1 c2 c3 c4
  clear hW
  have HE := hid (show rl = p3 by rw [HRL.out, HP3.out, HP2.out, HP1.out, HP0.out])
  go_wp2
  go_ret2
  exact ⟨by rw [HE.out] <;> rfl, HW6.out.below⟩

/-- The document's line is the program's. -/
theorem refLine_any (i : Ins) (hn : nOk i.n) (w : World) :
    Calls Tryd.prog 8 #[i.v] w fun e w' => e = .returned (.tuple #[.string (bsOf (lineL i)), .bool (mayB i)]) ∧ Below w.heap.size w w' := by
  cases hm : mayB i
  case true =>
    have := refLine_yes i (ok_of_may hm hn) hm w
    rw [refL_eq i hm] at this
    unfold lineL
    rw [if_pos hm]
    exact this
  case false =>
    have MI := fun W => MayInstr_any i W
    rw [hm] at MI
    have HMI := hid MI
    have HL := hid (show lineL i = [] by unfold lineL; rw [if_neg (by rw [hm]; simp)])
    obtain ⟨op, a, b, c, n⟩ := i
    show Calls _ _ #[.agg #[.int .i64 op, .int .i64 a, .int .i64 b, .int .i64 c, .int .i64 n]] _ _
    clear hm MI hn
    go_enter Tryd.func8, Tryd.ntmps8
    go_wp2_with (go_at_call 16; (with_reducible refine (HMI.out _).mono ?_); rintro e w1 ⟨rfl, hb1⟩; have HB := hid (bthen (bnew (bid w) _) hb1); clear hb1)
    go_ret2
    exact ⟨by rw [HL.out] <;> rfl, HB.out⟩

end Go.Proofs.YtkjcppnnfakjkaaDoor
