/-
  Package text: filled.
-/
import Derived.Test.YtbobjhadckeieaaGreatDoorTFill
namespace Go.Proofs.YtbobjhadckeieaaGreatDoor
open Go.RowKit
set_option linter.unusedVariables false

/-- What filled hands back: the fields read as numbers; or an instruction of which nothing is said, and false. -/
def FillRet (s : Shp) (nums : List (List UInt8)) (w : World) (e : Ending) (w' : World) : Prop :=
  ((∃ i, filledOf s nums = some i ∧ nOk i.n ∧ e = .returned (.tuple #[i.v, .bool true])) ∨ (filledOf s nums = none ∧ ∃ i : Ins, nOk i.n ∧ e = .returned (.tuple #[i.v, .bool false]))) ∧ Below w.heap.size w w'

structure FillAt (w : World) (s : Shp) (i : Ins) (W : World) : Prop where
  box : W.heap[w.heap.size]? = some (.cells #[.string (bsOf s.word), .int .i64 s.op, .int .i64 s.b, .string (bsOf s.fields)] 118 (0, 0))
  res : W.heap[w.heap.size + 1]? = some (.cells #[.int .i64 0, .int .i64 0, .int .i64 0, .int .i64 0, .int .i64 0] 40 (0, 0))
  inn : W.heap[w.heap.size + 2]? = some (.cells i.cs 40 (0, 0))
  below : Below w.heap.size w W

theorem FillAt.later {w W W' : World} {s : Shp} {i : Ins} (h : FillAt w s i W) (hb : Below W.heap.size W W') : FillAt w s i W' :=
  ⟨(hb.block _ (lt_of_block h.box)).trans h.box, (hb.block _ (lt_of_block h.res)).trans h.res, (hb.block _ (lt_of_block h.inn)).trans h.inn, bthen h.below hb⟩

theorem FillAt.new (w : World) (word : List UInt8) (so sb : Int) (fields : List UInt8) : FillAt w ⟨word, so, sb, fields⟩ ⟨so, 0, sb, 0, 0⟩ (((w.alloc (.cells #[.string (bsOf word), .int .i64 so, .int .i64 sb, .string (bsOf fields)] 118)).alloc (.cells #[.int .i64 0, .int .i64 0, .int .i64 0, .int .i64 0, .int .i64 0] 40)).alloc (.cells #[.int .i64 so, .int .i64 0, .int .i64 sb, .int .i64 0, .int .i64 0] 40)) := by
  refine ⟨?_, ?_, ?_, bnew (bnew (bnew (bid w) _) _) _⟩
  · rw [Below.heap_alloc _ _ _ (by simp; omega), Below.heap_alloc _ _ _ (by simp)]
    exact heap_alloc_new _ _
  · rw [Below.heap_alloc _ _ _ (by simp)]
    have := heap_alloc_new (w.alloc (.cells #[.string (bsOf word), .int .i64 so, .int .i64 sb, .string (bsOf fields)] 118)) (.cells #[.int .i64 0, .int .i64 0, .int .i64 0, .int .i64 0, .int .i64 0] 40)
    rw [size_alloc1] at this
    exact this
  · have := heap_alloc_new ((w.alloc (.cells #[.string (bsOf word), .int .i64 so, .int .i64 sb, .string (bsOf fields)] 118)).alloc (.cells #[.int .i64 0, .int .i64 0, .int .i64 0, .int .i64 0, .int .i64 0] 40)) (.cells #[.int .i64 so, .int .i64 0, .int .i64 sb, .int .i64 0, .int .i64 0] 40)
    rw [size_alloc2] at this
    exact this

theorem pint_ok {num : List UInt8} {v : Int} (h : Lib.parseIntB 64 num = .ok v) (hl : num.length ≤ 140737488355328) (w : World) :
    Calls Tryz.prog 89 #[.string (bsOf num), .int .i64 10, .int .i64 64] w fun e w' => e = .returned (.tuple #[.int .i64 v, .nilIface]) ∧ Below w.heap.size w w' := by
  refine (Tryz.strconv_ParseInt_10_at64_ok (bsOf num) (by rw [bsOf_size]; omega) v h w).mono ?_
  rintro e w' ⟨he, hw⟩
  refine ⟨he, ?_⟩
  rcases hw with rfl | ⟨t, rfl⟩
  · exact bid _
  · exact Lib.bytesWorld_below _ _ _
def PintNo (w : World) (e : Ending) (w' : World) : Prop := (∃ x p, e = .returned (.tuple #[.int .i64 x, .iface 191 p])) ∧ Below w.heap.size w w'
theorem pint_no {num : List UInt8} (h : ∀ v, Lib.parseIntB 64 num ≠ .ok v) (hl : num.length ≤ 140737488355328) (w : World) (ht : Tabs w) :
    Calls Tryz.prog 89 #[.string (bsOf num), .int .i64 10, .int .i64 64] w (PintNo w) := by
  obtain ⟨te, pe, h3⟩ := ht.syn
  obtain ⟨te', pe', h4⟩ := ht.rng
  cases hq : Lib.parseIntB 64 num
  · exact absurd hq (h _)
  · refine (Any.strconv_ParseInt_10_at64_syntax Tryz.laysC174 (bsOf num) (by rw [bsOf_size]; omega) hq _ w h3 (.inr ⟨_, _, rfl⟩)).mono ?_
    rintro e w' ⟨N, he, -, -, hb⟩
    exact ⟨⟨_, _, he⟩, hb⟩
  · refine (Tryz.strconv_ParseInt_10_at64_range (bsOf num) (by rw [bsOf_size]; omega) hq _ w h4 (.inr ⟨_, _, rfl⟩)).mono ?_
    rintro e w' ⟨N, he, -, -, hb⟩
    exact ⟨⟨_, _, he⟩, hb⟩

theorem FillAt.put {w W W' : World} {s : Shp} {i j : Ins} (h : FillAt w s i W) (h1 : W'.heap[w.heap.size + 2]? = some (.cells j.cs 40 (0, 0))) (h2 : Wrote (fun k => k = w.heap.size + 2) W W') : FillAt w s j W' :=
  ⟨(h2.block _ (lt_of_block h.box) (by omega)).trans h.box, (h2.block _ (lt_of_block h.res) (by omega)).trans h.res, h1, h.below.trans (h2.below h.below.size fun k hk e => by omega)⟩

theorem FillAt.facts {w W : World} {s : Shp} {i : Ins} (h : FillAt w s i W) :
    (W.cell? ⟨w.heap.size, 0, none⟩ = some (.string (bsOf s.word)) ∧ W.cell? ⟨w.heap.size, 1, none⟩ = some (.int .i64 s.op) ∧ W.cell? ⟨w.heap.size, 2, none⟩ = some (.int .i64 s.b) ∧ W.cell? ⟨w.heap.size, 3, none⟩ = some (.string (bsOf s.fields))) ∧
    (W.cell? ⟨w.heap.size + 1, 0, none⟩ = some (.int .i64 0) ∧ W.cell? ⟨w.heap.size + 1, 1, none⟩ = some (.int .i64 0) ∧ W.cell? ⟨w.heap.size + 1, 2, none⟩ = some (.int .i64 0) ∧ W.cell? ⟨w.heap.size + 1, 3, none⟩ = some (.int .i64 0) ∧ W.cell? ⟨w.heap.size + 1, 4, none⟩ = some (.int .i64 0)) ∧
    (W.cell? ⟨w.heap.size + 1 + 1, 0, none⟩ = some (.int .i64 i.op) ∧ W.cell? ⟨w.heap.size + 1 + 1, 1, none⟩ = some (.int .i64 i.a) ∧ W.cell? ⟨w.heap.size + 1 + 1, 2, none⟩ = some (.int .i64 i.b) ∧ W.cell? ⟨w.heap.size + 1 + 1, 3, none⟩ = some (.int .i64 i.c) ∧ W.cell? ⟨w.heap.size + 1 + 1, 4, none⟩ = some (.int .i64 i.n)) ∧
    (W.frozen? ⟨w.heap.size + 1, 0, none⟩ = false ∧ W.frozen? ⟨w.heap.size + 1, 1, none⟩ = false ∧ W.frozen? ⟨w.heap.size + 1, 2, none⟩ = false ∧ W.frozen? ⟨w.heap.size + 1, 3, none⟩ = false ∧ W.frozen? ⟨w.heap.size + 1, 4, none⟩ = false) ∧ w.heap.size + 2 < W.heap.size :=
  ⟨⟨cell_of_blk h.box 0, cell_of_blk h.box 1, cell_of_blk h.box 2, cell_of_blk h.box 3⟩, ⟨cell_of_blk h.res 0, cell_of_blk h.res 1, cell_of_blk h.res 2, cell_of_blk h.res 3, cell_of_blk h.res 4⟩,
    ⟨cell_of_blk h.inn 0, cell_of_blk h.inn 1, cell_of_blk h.inn 2, cell_of_blk h.inn 3, cell_of_blk h.inn 4⟩, ⟨frozen_of_blk h.res 0, frozen_of_blk h.res 1, frozen_of_blk h.res 2, frozen_of_blk h.res 3, frozen_of_blk h.res 4⟩, lt_of_block h.inn⟩

theorem zip_take_next {fields : List UInt8} {nums : List (List UInt8)} {pos : Nat} (h : pos < fields.length) (hn : pos < nums.length) : (fields.zip nums).take (pos + 1) = (fields.zip nums).take pos ++ [(fields[pos], nums[pos])] := by
  have hl : pos < (fields.zip nums).length := by rw [List.length_zip]; omega
  rw [List.take_succ_eq_append_getElem hl, List.getElem_zip]
theorem fill_stop (i : Ins) (l r : List (UInt8 × List UInt8)) (j : Ins) (f : UInt8) (num : List UInt8) (h : fillGo i l = some j) (hn : ∀ v, Lib.parseIntB 64 num ≠ .ok v) : fillGo i (l ++ (f, num) :: r) = none := by
  induction l generalizing i with
  | nil =>
    rw [List.nil_append]
    unfold fillGo
    split
    · rename_i v hv; exact absurd hv (hn v)
    · rfl
  | cons p l ih =>
    obtain ⟨g, m⟩ := p
    rw [List.cons_append]
    unfold fillGo at h ⊢
    split
    · rename_i v hv
      rw [hv] at h
      exact ih _ h
    · rfl

set_option maxRecDepth 100000 in
set_option maxHeartbeats 4000000 in
theorem filled_any (s : Shp) (nums : List (List UInt8)) (v : Value) (w : World) (ht : Tabs w) (hr : StrRow w v nums) (hs : s ∈ shps) (hl : ∀ l ∈ nums, l.length ≤ 140737488355328) :
    Calls Tryz.prog 66 #[s.v, v] w (FillRet s nums w) := by
  have hff := shps_fields _ hs
  obtain ⟨a, c, rfl⟩ := hr.form
  have HT := hid ht
  have HR := hid hr
  have HL := hid hl
  obtain ⟨word, so, sb, fields⟩ := s
  dsimp only at hff
  show Calls _ _ #[.agg #[.string (bsOf word), .int .i64 so, .int .i64 sb, .string (bsOf fields)], _] _ _
  clear ht hr hl hs
  have HN := hid (FillAt.new w word so sb fields)
  go_enter Tryz.func66, Tryz.ntmps66
  go_upto_region 2 with fail
  refine wp_rename (fun W => FillAt w ⟨word, so, sb, fields⟩ ⟨so, 0, sb, 0, 0⟩ W) HN.out ?_
  intro W hW
  have HW := hid hW
  clear hW HN
  have hz := bsOf_size fields
  by_cases hq : nums.length = fields.length
  case neg =>
    obtain ⟨⟨b0, b1, b2, b3⟩, ⟨e0, e1, e2, e3, e4⟩, ⟨c0, c1, c2, c3, c4⟩, ⟨g0, g1, g2, g3, g4⟩, hsz⟩ := HW.out.facts
    dsimp only at b0 b1 b2 b3 c0 c1 c2 c3 c4
    have i1 : ¬ ((nums.length : Int) = ((bsOf fields).size : Int)) := by rw [hz]; omega
    have i3 : ((nums.length : Int) != ((bsOf fields).size : Int)) = true := by simpa using i1
    have H := hid (show filledOf ⟨word, so, sb, fields⟩ nums = none by unfold filledOf; rw [if_neg hq])
    clear hz hq i1
    go_wp2
    refine bodyPost_ret (v := .tuple #[(Ins.mk so 0 sb 0 0).v, .bool false]) (by simp [results, Tryz.results66, go_sem, c0, c1, c2, c3, c4, e0, e1, e2, e3, e4]) rfl ⟨.inr ⟨H.out, ⟨so, 0, sb, 0, 0⟩, by unfold nOk; dsimp only; omega, rfl⟩, ?_⟩
    (repeat (refine Below.setCell ?_ (by dsimp only; omega) _))
    exact HW.out.below
  case pos =>
    obtain ⟨⟨b0, b1, b2, b3⟩, -, -, -, hsz⟩ := HW.out.facts
    dsimp only at b0 b1 b2 b3
    have i1 : ((nums.length : Int) = ((bsOf fields).size : Int)) := by rw [hz]; omega
    have i3 : ((nums.length : Int) != ((bsOf fields).size : Int)) = false := by simpa using i1
    have H := hid (show filledOf ⟨word, so, sb, fields⟩ nums = fillGo ⟨so, 0, sb, 0, 0⟩ (fields.zip nums) by unfold filledOf; rw [if_pos hq])
    have HQ := hid hq
    clear hz hq i1
    go_wp2
    clear i3 b0 b1 b2 b3
    go_loopw [] (fun wr => ∃ (pos : Nat) (i : Ins), pos ≤ fields.length ∧ fillGo ⟨so, 0, sb, 0, 0⟩ ((fields.zip nums).take pos) = some i ∧ nOk i.n ∧ FillAt w ⟨word, so, sb, fields⟩ i wr ∧ wr.heap[W.heap.size]? = some (.stringIter (bsOf fields) pos)) (fun wr => fields.length - wr.iterPos W.heap.size)
    case atStart => exact ⟨0, _, Nat.zero_le _, rfl, by unfold nOk; dsimp only; omega, HW.out.later (bnew (bid W) _), World.iter_heap _ _ _⟩
    case round =>
      obtain ⟨pos, i, hpos, hfi, hni, hfa, hit⟩ := hrel
      have HFI := hid hfi
      have HNI := hid hni
      have HFA := hid hfa
      have HIT := hid hit
      clear hfi hni hfa
      by_cases hp : pos < fields.length
      · have hq := HQ.out
        have hp' : pos < (bsOf fields).size := by rw [bsOf_size]; exact hp
        have hpn : pos < nums.length := by rw [hq]; exact hp
        have hget : (bsOf fields)[pos]'hp' = fields[pos] := rfl
        have hfm := hff.2 fields[pos] (List.getElem_mem hp)
        have hasc : ((bsOf fields)[pos]'hp').toNat < 128 := by rw [hget]; rcases hfm with e | e | e | e <;> rw [e] <;> decide
        have hnx : ∀ ty, (Instr.next (.pointer (some ⟨W.heap.size, 0, none⟩)) true ty).run Tryz.prog wr = _ := fun ty => Lib.run_next_ascii_at wr W.heap.size (bsOf fields) pos ty hit hp' hasc
        rw [hget] at hnx
        obtain ⟨b, off, rfl, hbl, hcell⟩ := (HR.out.row _ _ _ rfl).resolve_left (by intro e; rw [e] at hpn; simp at hpn)
        have hcn := hcell pos nums[pos] (List.getElem?_eq_getElem hpn)
        have hbw : b < wr.heap.size := Nat.lt_of_lt_of_le hbl HFA.out.below.size
        have hbk : b ≠ W.heap.size := by have := HW.out.below.size; omega
        have c0 : (wr.iterAt W.heap.size (bsOf fields) (pos + 1)).cell? ⟨b, off + pos, none⟩ = some (.string (bsOf nums[pos])) := by
          rw [World.cell?_of_block (a := ⟨b, off + pos, none⟩) (Lib.iterAt_other wr W.heap.size b (bsOf fields) (pos + 1) hbk), HFA.out.below.cell (p := ⟨b, off + pos, none⟩) hbl]
          exact hcn
        have HX : Hid (FillAt w ⟨word, so, sb, fields⟩ i (wr.iterAt W.heap.size (bsOf fields) (pos + 1))) := hid (by
          have k1 := lt_of_block HW.out.box
          have k2 := lt_of_block HW.out.res
          have k3 := lt_of_block HW.out.inn
          exact ⟨(Lib.iterAt_other _ _ _ _ _ (by omega)).trans HFA.out.box, (Lib.iterAt_other _ _ _ _ _ (by omega)).trans HFA.out.res, (Lib.iterAt_other _ _ _ _ _ (by omega)).trans HFA.out.inn, Lib.below_iterAt HFA.out.below HW.out.below.size _ _⟩)
        have HIT2 := hid (Lib.iterAt_heap wr W.heap.size (bsOf fields) pos (pos + 1) hit)
        have HLN := hid (HL.out nums[pos] (List.getElem_mem hpn))
        have HZT := hid (zip_take_next (fields := fields) (nums := nums) hp hpn)
        have j1 : (0 : Int) ≤ (pos : Int) := by omega
        have j2 : (pos : Int) < (nums.length : Int) := by omega
        have HT2 := hid (HT.out.below HX.out.below)
        have hne := run_neq_nil
        have hnn := run_neq_nils
        have HZD := hid (show fields.zip nums = (fields.zip nums).take pos ++ (fields[pos], nums[pos]) :: (fields.zip nums).drop (pos + 1) by
          have hl : pos < (fields.zip nums).length := by rw [List.length_zip]; omega
          have := List.drop_eq_getElem_cons hl
          rw [List.getElem_zip] at this
          exact (List.take_append_drop pos (fields.zip nums)).symm.trans (congrArg (fun z => (fields.zip nums).take pos ++ z) this))
        generalize nums[pos] = num at c0 HLN HZT HZD
        generalize fields[pos] = f at hnx hfm HZT HZD
        clear hcell hcn hbl hbw hbk hget hasc hp' hpn hq hit
        by_cases hv : ∃ v, Lib.parseIntB 64 num = .ok v
        · obtain ⟨v, hv⟩ := hv
          have HV := hid hv
          clear hv
          go_wp2_with (first | (go_at_call 89; (with_reducible refine (pint_ok HV.out HLN.out _).mono ?_); rintro e w3 ⟨rfl, hb3⟩; have HX3 := hid (HX.out.later hb3); have HIT3 := hid ((hb3.block _ (lt_of_block HIT2.out)).trans HIT2.out); clear hb3) | (go_at_call 90; (with_reducible refine (put_any _ i f hfm v _ HX3.out.inn).mono ?_); rintro e w4 ⟨rfl, hb4, hw4⟩; have HX4 := hid (HX3.out.put hb4 hw4); have HIT4 := hid ((hw4.block _ (lt_of_block HIT3.out) (by have := lt_of_block HW.out.inn; omega)).trans HIT3.out); clear hb4 hw4))
          go_roundw
          case rel =>
            refine ⟨pos + 1, _, by omega, ?_, putF_n HNI.out (parse_range HV.out), HX4.out, HIT4.out⟩
            rw [HZT.out, fillGo_snoc, HFI.out]
            show fillGo i [(f, num)] = _
            unfold fillGo
            rw [HV.out]
            rfl
          case measure =>
            simp only [World.iterPos, HIT4.out, HIT.out]
            omega
        · have HV := hid (show ∀ v, Lib.parseIntB 64 num ≠ .ok v from fun v h => hv ⟨v, h⟩)
          have H0 := hid (show filledOf ⟨word, so, sb, fields⟩ nums = none by rw [H.out, HZD.out]; exact fill_stop _ _ _ _ _ _ HFI.out HV.out)
          clear hv
          go_wp2_with (go_at_call 89; (with_reducible refine (pint_no HV.out HLN.out _ HT2.out).mono ?_); rintro e w3 ⟨⟨x, p, rfl⟩, hb3⟩; obtain ⟨⟨b0, b1, b2, b3⟩, ⟨e0, e1, e2, e3, e4⟩, ⟨c0, c1, c2, c3, c4⟩, ⟨g0, g1, g2, g3, g4⟩, hsz⟩ := (HX.out.later hb3).facts; have HX3 := hid (HX.out.later hb3); clear hb3)
          refine bodyPost_ret (v := .tuple #[i.v, .bool false]) (by simp [results, Tryz.results66, go_sem, c0, c1, c2, c3, c4, e0, e1, e2, e3, e4]) rfl ⟨.inr ⟨H0.out, i, HNI.out, rfl⟩, ?_⟩
          (repeat (refine Below.setCell ?_ (by dsimp only; omega) _))
          exact HX3.out.below
      · obtain rfl : pos = fields.length := by omega
        have hnx : ∀ ty, (Instr.next (.pointer (some ⟨W.heap.size, 0, none⟩)) true ty).run Tryz.prog wr = _ := fun ty => Lib.run_next_end_at wr W.heap.size (bsOf fields) fields.length ty hit (by rw [bsOf_size]; omega)
        have H0 := hid (show filledOf ⟨word, so, sb, fields⟩ nums = some i by rw [H.out, ← HFI.out, List.take_of_length_le (by rw [List.length_zip]; omega)])
        obtain ⟨⟨b0, b1, b2, b3⟩, ⟨e0, e1, e2, e3, e4⟩, ⟨c0, c1, c2, c3, c4⟩, ⟨g0, g1, g2, g3, g4⟩, hsz2⟩ := HFA.out.facts
        clear hit hp
        go_wp2
        refine bodyPost_ret (v := .tuple #[i.v, .bool true]) (by simp [results, Tryz.results66, go_sem, c0, c1, c2, c3, c4, e0, e1, e2, e3, e4]) rfl ⟨.inl ⟨i, H0.out, HNI.out, rfl⟩, ?_⟩
        (repeat (refine Below.setCell ?_ (by dsimp only; omega) _))
        exact HFA.out.below

end Go.Proofs.YtbobjhadckeieaaGreatDoor
