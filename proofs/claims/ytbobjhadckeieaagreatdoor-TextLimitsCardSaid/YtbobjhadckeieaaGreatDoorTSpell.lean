/-
  Package text: spell, Line.
-/
import Derived.Test.YtbobjhadckeieaaGreatDoorTGet
import Derived.Lib.OthersKept
import Derived.Lib.ItoaLen
namespace Go.Proofs.YtbobjhadckeieaaGreatDoor
open Go.RowKit
set_option linter.unusedVariables false

structure Ins.ok (i : Ins) : Prop where
  a : nOk i.a
  b : nOk i.b
  c : nOk i.c
  n : nOk i.n
theorem getF_ok {i : Ins} (h : i.ok) (f : UInt8) : nOk (getF i f) := by
  unfold getF
  split
  · exact h.a
  · split
    · exact h.b
    · split
      · exact h.c
      · exact h.n
theorem tailF_len {i : Ins} (h : i.ok) (fs : List UInt8) : (tailF i fs).length ≤ 22 * fs.length := by
  induction fs with
  | nil => simp [tailF]
  | cons f r ih =>
    have := Lib.itoa_length_le (getF i f) (getF_ok h f).lo (getF_ok h f).hi
    simp only [tailF, List.flatMap_cons, List.length_append, List.length_cons] at ih ⊢
    omega
theorem grow_below (w : World) (k : Nat) (os : Array Obj) : Below w.heap.size w (Go.Sort.grow (w.drewN k) os) := by
  refine ⟨rfl, rfl, rfl, by simp [Go.Sort.grow, World.drewN], fun j hj => ?_⟩
  show (w.heap ++ os)[j]? = _
  rw [Array.getElem?_append, if_pos hj]

set_option maxRecDepth 100000 in
set_option maxHeartbeats 4000000 in
theorem spell_any (i : Ins) (hi : i.ok) (w : World) (ht : Tabs w) :
    Calls Tryz.prog 92 #[i.v] w fun e w' => e = .returned (.string (bsOf (spellL i))) ∧ Below w.heap.size w w' := by
  have HI := hid hi
  obtain ⟨op, a, b, c, n⟩ := i
  have HW : Tabs (w.alloc (.cells #[.int .i64 op, .int .i64 a, .int .i64 b, .int .i64 c, .int .i64 n] 40)) := ht.below (bnew (bid w) _)
  obtain ⟨t, fr, hsh⟩ := HW.shapes
  have HS := hid hsh
  have HT := hid HW
  have HB0 : Hid (InsAt (w.alloc (.cells #[.int .i64 op, .int .i64 a, .int .i64 b, .int .i64 c, .int .i64 n] 40)) w.heap.size 0 ⟨op, a, b, c, n⟩) := hid (by
    have := heap_alloc_new w (.cells #[.int .i64 op, .int .i64 a, .int .i64 b, .int .i64 c, .int .i64 n] 40)
    exact ⟨cell_of_blk this 0, cell_of_blk this 1, cell_of_blk this 2, cell_of_blk this 3, cell_of_blk this 4⟩)
  show Calls _ _ #[.agg #[.int .i64 op, .int .i64 a, .int .i64 b, .int .i64 c, .int .i64 n]] _ _
  clear ht HW hsh hi
  go_enter Tryz.func92, Tryz.ntmps92
  go_wp2_with (with_reducible refine wpList_load_row rfl 119 (.global 10) rfl 10 rfl _ shapesCs fr _ HS.out Tryz.underlying119 rfl (by kernel_rfl) ?_)
  clear HS
  refine wp_rename (fun W => Tabs W ∧ InsAt W w.heap.size 0 ⟨op, a, b, c, n⟩ ∧ Below w.heap.size w W ∧ w.heap.size < W.heap.size) ⟨HT.out, HB0.out, bnew (bid w) _, by simp⟩ ?_
  rintro W ⟨hT, hB, hbW, hzW⟩
  clear HT HB0
  have HT := hid hT
  have HB := hid hB
  have HW := hid hbW
  clear hT hB hbW
  go_loopw [9] (fun tk wr => ∃ k : Nat, k ≤ 23 ∧ tk = .int .i64 k ∧ (shps.take k).find? (fun s => sfits s ⟨op, a, b, c, n⟩) = none ∧ Below W.heap.size W wr) (fun tk _ => 23 - (intOf tk).toNat)
  case atStart => exact ⟨0, Nat.zero_le _, rfl, rfl, bid W⟩
  case round =>
    obtain ⟨k, hk, rfl, hf, hb⟩ := hrel
    have HF := hid hf
    have HBR := hid hb
    obtain ⟨c0, c1, c2, c3, c4⟩ := HB.out.keep (hb.block w.heap.size hzW)
    have hz : w.heap.size < wr.heap.size := Nat.lt_of_lt_of_le hzW hb.size
    simp only [Nat.zero_add] at c1 c2 c3 c4
    dsimp only at c0 c1 c2 c3 c4
    clear hf hb
    by_cases hlt : k < 23
    · obtain ⟨⟨word, so, sb, fields⟩, hs, hm⟩ := shps_at k hlt
      have hix := shape_at k hlt _ hs
      dsimp only [Shp.v] at hix
      have HS := hid hs
      have hff := shps_fields _ hm
      dsimp only at hff
      have hww := hid (shps_short _ hm)

      have j1 : (k : Int) < 23 := by omega
      have j2 : (0 : Int) ≤ (k : Int) := by omega
      have FT := fits_any ⟨word, so, sb, fields⟩ ⟨op, a, b, c, n⟩
      dsimp only [Shp.v, Ins.v] at FT
      cases hfit : sfits ⟨word, so, sb, fields⟩ ⟨op, a, b, c, n⟩
      case false =>
        rw [hfit] at FT
        have HFT := hid FT
        have HFF := hid hfit
        clear FT hfit hff hm hs
        go_wp2_with (go_at_call 109; (with_reducible refine (HFT.out _).mono ?_); rintro e w2 ⟨rfl, hb2⟩; have HB2 := hid (bthen HBR.out (bthen (bnew (bid wr) _) hb2)); clear hb2)
        go_roundw
        case rel => exact ⟨k + 1, by omega, by go_num, find_snoc _ _ k _ HS.out HF.out HFF.out, HB2.out⟩
        case measure => simp [intOf]; omega
      case true =>
        rw [hfit] at FT
        have HFT := hid FT
        have HSP := hid (show spellL ⟨op, a, b, c, n⟩ = word ++ tailF ⟨op, a, b, c, n⟩ fields by unfold spellL; rw [find_hit _ _ k _ hs HF.out hfit])
        clear FT hfit hm hs HS HF
        go_wp2_with (go_at_call 109; (with_reducible refine (HFT.out _).mono ?_); rintro e w2 ⟨rfl, hb2⟩; have HB2 := hid (bthen HBR.out (bthen (bnew (bid wr) _) hb2)); have HB3 := hid hb2; obtain ⟨cc, gg, ss⟩ := bcell hb2 (size_alloc1 _ _); clear hb2)
        clear hix c0 c1 c2 c3 c4 hz cc gg ss HFT j1 j2
        have HZ := hid (show w.heap.size < w2.heap.size from Nat.lt_of_lt_of_le hzW HB2.out.size)
        go_loopw [5] (fun v5 wx => ∃ pos : Nat, pos ≤ fields.length ∧ v5 = .string (bsOf (word ++ tailF ⟨op, a, b, c, n⟩ (fields.take pos))) ∧ wx.heap[w2.heap.size]? = some (.stringIter (bsOf fields) pos) ∧ Below w2.heap.size w2 wx) (fun _ wx => fields.length - wx.iterPos w2.heap.size)
        case atStart => exact ⟨0, Nat.zero_le _, by simp [tailF], World.iter_heap _ _ _, bnew (bid w2) _⟩
        case round =>
          obtain ⟨pos, hpos, rfl, hit, hb⟩ := hrel
          have hz := HZ.out
          obtain ⟨c0, c1, c2, c3, c4⟩ := HB.out.keep ((HB2.out.trans (hb.mono HB2.out.size)).block w.heap.size hzW)
          simp only [Nat.zero_add] at c1 c2 c3 c4
          dsimp only at c0 c1 c2 c3 c4
          have hk2 : w2.heap.size < wr.heap.size := lt_of_block hit
          by_cases hp : pos < fields.length
          · have hp' : pos < (bsOf fields).size := by rw [bsOf_size]; exact hp
            have hget : (bsOf fields)[pos]'hp' = fields[pos] := rfl
            have hfm := hff.2 fields[pos] (List.getElem_mem hp)
            have hasc : ((bsOf fields)[pos]'hp').toNat < 128 := by rw [hget]; rcases hfm with e | e | e | e <;> rw [e] <;> decide
            have hnx : ∀ ty, (Instr.next (.pointer (some ⟨w2.heap.size, 0, none⟩)) true ty).run Tryz.prog wr = _ := fun ty => Lib.run_next_ascii_at wr w2.heap.size (bsOf fields) pos ty hit hp' hasc
            rw [hget] at hnx
            have hit2 := Lib.iterAt_heap wr w2.heap.size (bsOf fields) pos (pos + 1) hit
            have hb2 := Lib.below_iterAt hb (k := w2.heap.size) (Nat.le_refl _) (bsOf fields) (pos + 1)
            have hsz := Lib.iterAt_size wr w2.heap.size (bsOf fields) (pos + 1)
            have e1 : tailF ⟨op, a, b, c, n⟩ (fields.take (pos + 1)) = tailF ⟨op, a, b, c, n⟩ (fields.take pos) ++ 32 :: Lib.itoa (getF ⟨op, a, b, c, n⟩ fields[pos]) := by
              rw [List.take_succ_eq_append_getElem hp, tailF_snoc]
              rfl
            have HE := hid e1
            have HOK := hid (getF_ok HI.out fields[pos])
            have hlen : ¬ 9223372036854775807 < (bsOf (word ++ tailF ⟨op, a, b, c, n⟩ (fields.take pos))).size + (1 + (Lib.itoa (getF ⟨op, a, b, c, n⟩ fields[pos])).length) := by
              have h1 := tailF_len HI.out (fields.take pos)
              have h2 := Lib.itoa_length_le _ (getF_ok HI.out fields[pos]).lo (getF_ok HI.out fields[pos]).hi
              have h3 := hww.out
              have h4 := hff.1
              have h5 : (fields.take pos).length ≤ pos := List.length_take_le _ _
              rw [bsOf_size, List.length_append]
              omega
            generalize fields[pos] = f at hnx hfm HE HOK hlen
            have GT := fun W => get_any ⟨op, a, b, c, n⟩ f hfm W
            dsimp only [Ins.v] at GT
            have HGT := hid GT
            have HIT := hid hit2
            have HB5 := hid hb2
            have HSZ := hid hsz
            clear GT e1 hit2 hb2 hget hasc hp' hfm hsz
            generalize getF ⟨op, a, b, c, n⟩ f = v at HGT HE HOK hlen
            have oo := fun (j : Nat) => Lib.iterAt_other wr w2.heap.size j (bsOf fields) (pos + 1)
            have c0' := (World.cell?_of_block (a := ⟨w.heap.size, 0, none⟩) (oo w.heap.size (by omega))).trans c0
            have c1' := (World.cell?_of_block (a := ⟨w.heap.size, 1, none⟩) (oo w.heap.size (by omega))).trans c1
            have c2' := (World.cell?_of_block (a := ⟨w.heap.size, 2, none⟩) (oo w.heap.size (by omega))).trans c2
            have c3' := (World.cell?_of_block (a := ⟨w.heap.size, 3, none⟩) (oo w.heap.size (by omega))).trans c3
            have c4' := (World.cell?_of_block (a := ⟨w.heap.size, 4, none⟩) (oo w.heap.size (by omega))).trans c4
            clear oo c0 c1 c2 c3 c4
            go_wp2_with (first | (go_at_call 111; (with_reducible refine (HGT.out _).mono ?_); rintro e w3 ⟨rfl, hb3⟩; have HB6 := hid (bthen HB5.out hb3); have HIT6 := hid ((hb3.block _ (by rw [HSZ.out]; exact hk2)).trans HIT.out); clear hb3) | (go_at_call 110; (with_reducible refine (Tryz.strconv_FormatInt_10 _ HOK.out.lo HOK.out.hi _ ((HT.out.below HB2.out).below HB6.out).pow).mono ?_); rintro e w4 ⟨rfl, q, os, rfl⟩; have HB7 := hid (bthen HB6.out (grow_below _ q os)); have HIT7 := hid (((grow_below w3 q os).block _ (lt_of_block HIT6.out)).trans HIT6.out)))
            go_roundw
            case rel =>
              refine ⟨pos + 1, by omega, ?_, HIT7.out, HB7.out⟩
              rw [HE.out]
              congr 1
              apply ByteArray.ext
              simp [bsOf]
            case measure =>
              simp only [World.iterPos, HIT7.out, hit]
              omega
          · obtain rfl : pos = fields.length := by omega
            have hnx : ∀ ty, (Instr.next (.pointer (some ⟨w2.heap.size, 0, none⟩)) true ty).run Tryz.prog wr = _ := fun ty => Lib.run_next_end_at wr w2.heap.size (bsOf fields) fields.length ty hit (by rw [bsOf_size]; omega)
            have HBX := hid hb
            clear hb hit
            go_wp2
            go_ret
            refine ⟨?_, bthen HW.out (HB2.out.trans (HBX.out.mono HB2.out.size))⟩
            rw [HSP.out, List.take_length]
            rfl
    · obtain rfl : k = 23 := by omega
      have HN := hid (show spellL ⟨op, a, b, c, n⟩ = [] by unfold spellL; rw [show shps = shps.take 23 from rfl, HF.out])
      clear hlt
      go_wp2
      go_ret
      exact ⟨by rw [HN.out]; rfl, bthen HW.out HBR.out⟩

theorem ok_of_may {i : Ins} (h : mayB i = true) (hn : nOk i.n) : i.ok := by
  obtain ⟨op, a, b, c, n⟩ := i
  unfold mayB at h
  simp only [Bool.and_eq_true] at h
  obtain ⟨⟨⟨⟨h0, h1⟩, h2⟩, h3⟩, _⟩ := h
  have ho := of_decide_eq_true h0
  have hl : limA op ≤ 4 ∧ limB op ≤ 4 ∧ limC op ≤ 4 := by
    rcases op_cases op with (rfl | rfl | rfl | rfl | rfl | rfl | rfl | rfl | rfl | rfl | rfl) | (rfl | rfl | rfl | rfl | rfl | rfl | rfl | rfl | rfl | rfl | rfl) | h
    case inr.inr => omega
    all_goals decide
  have g1 := amongB_iff.1 h1
  have g2 := amongB_iff.1 h2
  have g3 := amongB_iff.1 h3
  exact ⟨by unfold nOk; dsimp only; omega, by unfold nOk; dsimp only; omega, by unfold nOk; dsimp only; omega, hn⟩

set_option maxRecDepth 100000 in
set_option maxHeartbeats 2000000 in
theorem Line_any (i : Ins) (hn : nOk i.n) (w : World) (ht : Tabs w) :
    Calls Tryz.prog 67 #[i.v] w fun e w' => e = .returned (.tuple #[.string (bsOf (lineL i)), .bool (mayB i)]) ∧ Below w.heap.size w w' := by
  have HM := fun W => May_any i W
  have HT := hid ht
  cases hm : mayB i
  case false =>
    rw [hm] at HM
    have HMM := hid HM
    have HL := hid (show lineL i = [] by unfold lineL; rw [if_neg (by rw [hm]; simp)])
    obtain ⟨op, a, b, c, n⟩ := i
    show Calls _ _ #[.agg #[.int .i64 op, .int .i64 a, .int .i64 b, .int .i64 c, .int .i64 n]] _ _
    clear hm HM ht hn
    go_enter Tryz.func67, Tryz.ntmps67
    go_wp2_with (go_at_call 91; (with_reducible refine (HMM.out _).mono ?_); rintro e w1 ⟨rfl, hb1⟩; have HB := hid (bthen (bnew (bid w) _) hb1); clear hb1)
    go_ret2
    exact ⟨by rw [HL.out]; rfl, HB.out⟩
  case true =>
    rw [hm] at HM
    have HMM := hid HM
    have HL := hid (show lineL i = spellL i by unfold lineL; rw [if_pos hm])
    have HOK := hid (ok_of_may hm hn)
    have SP := fun W hT => spell_any i HOK.out W hT
    rw [← HL.out] at SP
    have HSP := hid SP
    clear hm HM ht hn SP HL HOK
    generalize lineL i = l at HSP ⊢
    obtain ⟨op, a, b, c, n⟩ := i
    show Calls _ _ #[.agg #[.int .i64 op, .int .i64 a, .int .i64 b, .int .i64 c, .int .i64 n]] _ _
    go_enter Tryz.func67, Tryz.ntmps67
    go_wp2_with (first | (go_at_call 91; (with_reducible refine (HMM.out _).mono ?_); rintro e w1 ⟨rfl, hb1⟩; obtain ⟨cc, gg, ss⟩ := bcell hb1 (size_alloc1 _ _); have HB := hid (bthen (bnew (bid w) _) hb1); clear hb1) | (go_at_call 92; (with_reducible refine (HSP.out _ (HT.out.below HB.out)).mono ?_); rintro e w2 ⟨rfl, hb2⟩))
    go_ret2
    exact ⟨rfl, bthen HB.out hb2⟩

end Go.Proofs.YtbobjhadckeieaaGreatDoor
