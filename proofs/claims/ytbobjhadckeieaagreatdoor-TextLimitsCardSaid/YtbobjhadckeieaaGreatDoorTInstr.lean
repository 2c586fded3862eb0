/-
  Package text: instr: what a line says.
-/
import Derived.Test.YtbobjhadckeieaaGreatDoorTFilled
import Derived.StillTailTactics
import Derived.Deep.RegionHeld3
import Derived.Deep.DrawnRows
namespace Go.Proofs.YtbobjhadckeieaaGreatDoor
open Go.RowKit
set_option linter.unusedVariables false
attribute [local go_sem ↓] Go.wp_at_zero Go.wp_at_succ

def SplitRet (c : UInt8) (s : List UInt8) (w : World) (e : Ending) (w' : World) : Prop :=
  (∃ N, e = .returned (.slice (some ⟨w.heap.size, 0, none⟩) N N) ∧ N = (cutAt c s).length) ∧ (∀ k l, (cutAt c s)[k]? = some l → w'.cell? ⟨w.heap.size, k, none⟩ = some (.string (bsOf l))) ∧ w.heap.size < w'.heap.size ∧ Below w.heap.size w w'
theorem split_any (c : UInt8) (s : List UInt8) (w : World) (ht : Tabs w) (hl : s.length < 4294967281) :
    Calls Tryz.prog 22 #[.string (bsOf s), .string ⟨#[c]⟩] w (SplitRet c s w) := by
  obtain ⟨m, hm⟩ := ht.most
  refine (Tryz.strings_Split (bsOf s) ⟨#[c]⟩ m w (by rw [bsOf_size]; exact hl) hm (Nat.le_refl 1)).mono ?_
  rintro e w' ⟨rfl, rfl⟩
  have e1 := countB_cut c (bsOf s)
  have e2 := splitB_cut c (bsOf s)
  rw [bsOf_data] at e1 e2
  refine ⟨⟨_, by rw [e1], rfl⟩, fun k l hk => ?_, by simp, bnew (bid w) _⟩
  rw [World.cell?_alloc_at _ _ _ _ rfl, e2]
  simp [hk]

theorem cutAt_len (c : UInt8) (s : List UInt8) : (cutAt c s).length ≤ s.length + 1 := by
  induction s with
  | nil => simp [cutAt]
  | cons x r ih =>
    unfold cutAt
    split
    · simp only [List.length_cons]; omega
    · split
      · simp
      · rename_i h t e
        rw [e] at ih
        simp only [List.length_cons] at ih ⊢
        omega
theorem cutAt_each (c : UInt8) (s : List UInt8) : ∀ l ∈ cutAt c s, l.length ≤ s.length := by
  induction s with
  | nil => simp [cutAt]
  | cons x r ih =>
    unfold cutAt
    split
    · intro l hl
      rcases List.mem_cons.1 hl with rfl | hl
      · simp
      · have := ih l hl
        simp only [List.length_cons]; omega
    · split
      · simp
      · rename_i h t e
        rw [e] at ih
        intro l hl
        rcases List.mem_cons.1 hl with rfl | hl
        · have := ih h (by simp)
          simp only [List.length_cons]; omega
        · have := ih l (by simp [hl])
          simp only [List.length_cons]; omega
theorem cutAt_pos (c : UInt8) (s : List UInt8) : 0 < (cutAt c s).length := List.length_pos_iff.2 (cutAt_ne c s)

def TInRet (line : List UInt8) (w : World) (e : Ending) (w' : World) : Prop :=
  ((∃ i, instrOf line = some i ∧ e = .returned (.tuple #[i.v, .bool true])) ∨ (instrOf line = none ∧ e = .returned (.tuple #[Ins.zero.v, .bool false]))) ∧ Below w.heap.size w w'

theorem toList_bsOf (l : List UInt8) : (bsOf l).toList = l := ByteArray.toList_mk l
theorem fillGo_ok {l : List (UInt8 × List UInt8)} : ∀ {i j : Ins}, nOk i.n → fillGo i l = some j → nOk j.n := by
  induction l with
  | nil => intro i j hi h; cases h; exact hi
  | cons p r ih =>
    intro i j hi h
    obtain ⟨f, num⟩ := p
    unfold fillGo at h
    split at h
    · rename_i v hv
      exact ih (putF_n hi (parse_range hv)) h
    · cases h
theorem filledOf_ok {s : Shp} {nums : List (List UInt8)} {i : Ins} (h : filledOf s nums = some i) : nOk i.n := by
  unfold filledOf at h
  split at h
  · exact fillGo_ok (by unfold nOk; dsimp only; omega) h
  · cases h
theorem filled_yes {s : Shp} {nums : List (List UInt8)} {i : Ins} (h : filledOf s nums = some i) (v : Value) (w : World) (ht : Tabs w) (hr : StrRow w v nums) (hs : s ∈ shps) (hl : ∀ l ∈ nums, l.length ≤ 140737488355328) :
    Calls Tryz.prog 66 #[s.v, v] w fun e w' => e = .returned (.tuple #[i.v, .bool true]) ∧ Below w.heap.size w w' := by
  refine (filled_any s nums v w ht hr hs hl).mono ?_
  rintro e w' ⟨h1, hb⟩
  rcases h1 with ⟨j, hj, -, he⟩ | ⟨hn, -⟩
  · rw [h] at hj; cases hj
    exact ⟨he, hb⟩
  · rw [h] at hn; cases hn
def FillNo (w : World) (e : Ending) (w' : World) : Prop := (∃ i : Ins, nOk i.n ∧ e = .returned (.tuple #[i.v, .bool false])) ∧ Below w.heap.size w w'
theorem filled_no {s : Shp} {nums : List (List UInt8)} (h : filledOf s nums = none) (v : Value) (w : World) (ht : Tabs w) (hr : StrRow w v nums) (hs : s ∈ shps) (hl : ∀ l ∈ nums, l.length ≤ 140737488355328) :
    Calls Tryz.prog 66 #[s.v, v] w (FillNo w) := by
  refine (filled_any s nums v w ht hr hs hl).mono ?_
  rintro e w' ⟨h1, hb⟩
  rcases h1 with ⟨j, hj, -, he⟩ | ⟨hn, j, hj, he⟩
  · rw [h] at hj; cases hj
  · exact ⟨⟨j, hj, he⟩, hb⟩

structure InstrAt (w : World) (line : List UInt8) (B : Nat) (W : World) : Prop where
  tabs : Tabs W
  res : W.heap[w.heap.size]? = some (.cells #[.int .i64 0, .int .i64 0, .int .i64 0, .int .i64 0, .int .i64 0] 40 (0, 0))
  words : ∀ k l, (cutAt 32 line)[k]? = some l → W.cell? ⟨B, k, none⟩ = some (.string (bsOf l))
  lt : B < W.heap.size
  below : Below w.heap.size w W
theorem InstrAt.later {w W W' : World} {line : List UInt8} {B : Nat} (h : InstrAt w line B W) (hb : Below W.heap.size W W') : InstrAt w line B W' :=
  ⟨h.tabs.below hb, (hb.block _ (lt_of_block h.res)).trans h.res, fun k l hk => (hb.cell (p := ⟨B, k, none⟩) h.lt).trans (h.words k l hk), Nat.lt_of_lt_of_le h.lt hb.size, bthen h.below hb⟩

theorem keepSet {V a : World} {G : Nat} {c0 c1 c2 c3 : Value} (hG : G < V.heap.size) (h : (a.cell? ⟨G, 0, none⟩ = some c0 ∧ a.cell? ⟨G, 1, none⟩ = some c1 ∧ a.cell? ⟨G, 2, none⟩ = some c2 ∧ a.cell? ⟨G, 3, none⟩ = some c3) ∧ Below V.heap.size V a) (p : Addr) (u : Value) (hp : V.heap.size ≤ p.block) :
    ((a.setCell p u).cell? ⟨G, 0, none⟩ = some c0 ∧ (a.setCell p u).cell? ⟨G, 1, none⟩ = some c1 ∧ (a.setCell p u).cell? ⟨G, 2, none⟩ = some c2 ∧ (a.setCell p u).cell? ⟨G, 3, none⟩ = some c3) ∧ Below V.heap.size V (a.setCell p u) := by
  obtain ⟨⟨h0, h1, h2, h3⟩, h4⟩ := h
  have k : ∀ {j : Nat} {v : Value}, a.cell? ⟨G, j, none⟩ = some v → (a.setCell p u).cell? ⟨G, j, none⟩ = some v := fun {j v} h => (World.cell?_of_block (a := ⟨G, j, none⟩) (Below.heap_setCell _ _ _ _ (by dsimp only; omega))).trans h
  exact ⟨⟨k h0, k h1, k h2, k h3⟩, h4.setCell hp _⟩
theorem store5 {W : World} {g : Nat} {T : TypeId} {z0 z1 z2 z3 z4 : Value} (i : Ins) (h : W.heap[g]? = some (.cells #[z0, z1, z2, z3, z4] T (0, 0))) :
    (((((W.setCell ⟨g, 0, none⟩ (.int .i64 i.op)).setCell ⟨g, 1, none⟩ (.int .i64 i.a)).setCell ⟨g, 2, none⟩ (.int .i64 i.b)).setCell ⟨g, 3, none⟩ (.int .i64 i.c)).setCell ⟨g, 4, none⟩ (.int .i64 i.n)).heap[g]? = some (.cells i.cs T (0, 0)) := by
  rw [blk_setCell (blk_setCell (blk_setCell (blk_setCell (blk_setCell h _ _) _ _) _ _) _ _) _ _]
  rfl
theorem heldB {A : Prop} {V a : World} (h : A ∧ Below V.heap.size V a) : Below V.heap.size V a := h.2
theorem rest_row {w V : World} {line word : List UInt8} {rest : List (List UInt8)} {B N : Nat} (h : InstrAt w line B V) (hw : cutAt 32 line = word :: rest) (hN : N = rest.length + 1) :
    StrRow V (.slice (if N = 1 then some ⟨B, 0, none⟩ else some ⟨B, 1, none⟩) (N - 1) (N - 1)) rest := by
  have e : N - 1 = rest.length := by omega
  refine ⟨⟨_, _, by rw [e]⟩, fun a n c he => ?_⟩
  cases rest with
  | nil => exact .inl rfl
  | cons x r =>
    right
    rw [if_neg (by simp at hN; omega)] at he
    cases he
    refine ⟨B, 1, rfl, h.lt, fun k l hk => ?_⟩
    rw [Nat.add_comm 1 k]
    exact h.words (k + 1) l (by rw [hw]; simpa using hk)
theorem rest_short {line word : List UInt8} {rest : List (List UInt8)} (hw : cutAt 32 line = word :: rest) (hl : line.length ≤ 100000) : ∀ l ∈ rest, l.length ≤ 140737488355328 := fun l hm => by
  have := cutAt_each 32 line l (by rw [hw]; simp [hm])
  omega

/-- Behind the call of filled: the instruction in a block of its own. -/
def RegAt (w w1 : World) (line : List UInt8) (B : Nat) (s : Shp) (rest : List (List UInt8)) (s7 s8 : Value) (wx : World) : Prop :=
  ∃ (g : Nat) (i : Ins), s7 = .pointer (some ⟨g, 0, none⟩) ∧ wx.heap[g]? = some (.cells i.cs 40 (0, 0)) ∧ nOk i.n ∧ ((s8 = .bool true ∧ filledOf s rest = some i) ∨ (s8 = .bool false ∧ filledOf s rest = none)) ∧ InstrAt w line B wx ∧ Below w1.heap.size w1 wx

/-- The cells of a shape's own block, and that nothing old has turned. -/
theorem keepS {V a b : World} {G : Nat} {c0 c1 c2 c3 : Value} (h : (a.cell? ⟨G, 0, none⟩ = some c0 ∧ a.cell? ⟨G, 1, none⟩ = some c1 ∧ a.cell? ⟨G, 2, none⟩ = some c2 ∧ a.cell? ⟨G, 3, none⟩ = some c3) ∧ Below V.heap.size V a) (hb : Below a.heap.size a b) :
    (b.cell? ⟨G, 0, none⟩ = some c0 ∧ b.cell? ⟨G, 1, none⟩ = some c1 ∧ b.cell? ⟨G, 2, none⟩ = some c2 ∧ b.cell? ⟨G, 3, none⟩ = some c3) ∧ Below V.heap.size V b := by
  obtain ⟨⟨h0, h1, h2, h3⟩, h4⟩ := h
  have k : ∀ {j : Nat} {v : Value}, a.cell? ⟨G, j, none⟩ = some v → b.cell? ⟨G, j, none⟩ = some v := fun {j v} h => (hb.cell (p := ⟨G, j, none⟩) (World.block_lt_of_cell? a _ h)).trans h
  exact ⟨⟨k h0, k h1, k h2, k h3⟩, bthen h4 hb⟩

set_option maxRecDepth 100000 in
set_option maxHeartbeats 40000000 in
theorem instr_any (line : List UInt8) (w : World) (ht : Tabs w) (hl : line.length ≤ 100000) :
    Calls Tryz.prog 42 #[.string (bsOf line)] w (TInRet line w) := by
  have HT : Hid (Tabs (w.alloc (.cells #[.int .i64 0, .int .i64 0, .int .i64 0, .int .i64 0, .int .i64 0] 40))) := hid (ht.below (bnew (bid w) _))
  have HR := hid (heap_alloc_new w (.cells #[.int .i64 0, .int .i64 0, .int .i64 0, .int .i64 0, .int .i64 0] 40))
  have HL := hid (show line.length < 4294967281 by omega)
  have HL2 := hid hl
  have HCL := hid (cutAt_len 32 line)
  have HCP := hid (cutAt_pos 32 line)
  clear ht hl
  go_enter Tryz.func42, Tryz.ntmps42
  go_upto_region 2 with (go_at_call 22; (with_reducible refine (split_any 32 line _ HT.out HL.out).mono ?_); rintro e w1 ⟨⟨N, rfl, hN⟩, hc1, hlt1, hb1⟩; have HN := hid hN; have HC := hid (InstrAt.mk (w := w) (line := line) (HT.out.below hb1) ((hb1.block _ (lt_of_block HR.out)).trans HR.out) hc1 hlt1 (bthen (bnew (bid w) _) hb1)); clear hN hc1 hlt1 hb1)
  obtain ⟨t, fr, hsh⟩ := HC.out.tabs.shapes
  have HS := hid hsh
  clear hsh
  go_wp2_with (with_reducible refine wpList_load_row rfl 119 (.global 10) rfl 10 rfl _ shapesCs fr _ HS.out Tryz.underlying119 rfl (by kernel_rfl) ?_)
  clear HS
  rw [size_alloc1] at HC
  have n1 : (0 : Int) < (N : Int) := by have := HCP.out; have := HN.out; omega
  have n2 : (N : Int) ≤ 100001 := by have := HCL.out; have := HN.out; have := HL2.out; omega
  obtain ⟨wd, rest, hwr⟩ : ∃ wd rest, cutAt 32 line = wd :: rest := by
    cases h : cutAt 32 line with
    | nil => exact absurd h (cutAt_ne _ _)
    | cons a b => exact ⟨a, b, rfl⟩
  have HWR := hid hwr
  have HNR := hid (show N = rest.length + 1 by rw [HN.out, hwr]; rfl)
  clear hwr
  go_loopw [14] (fun tk wr => ∃ k : Nat, k ≤ 23 ∧ tk = .int .i64 k ∧ (shps.take k).findSome? (instrTry line) = none ∧ Below w1.heap.size w1 wr) (fun tk _ => 23 - (intOf tk).toNat)
  case atStart => exact ⟨0, Nat.zero_le _, rfl, rfl, bid w1⟩
  case round =>
    obtain ⟨k, hk, rfl, hf, hb⟩ := hrel
    have HF := hid hf
    have HBR := hid hb
    have HCR := hid (HC.out.later hb)
    clear hf hb
    by_cases hlt : k < 23
    · obtain ⟨⟨word, so, sb, fields⟩, hs, hm⟩ := shps_at k hlt
      have hix := shape_at k hlt _ hs
      dsimp only [Shp.v] at hix
      have HS := hid hs
      have HM := hid hm
      have j1 : (k : Int) < 23 := by omega
      have j2 : (0 : Int) ≤ (k : Int) := by omega
      have cw : wr.cell? ⟨w.heap.size + 1, 0, none⟩ = some (.string (bsOf wd)) := HCR.out.words 0 wd (by rw [HWR.out]; rfl)
      have hlw : w.heap.size + 1 < wr.heap.size := HCR.out.lt
      clear hs hm
      by_cases hwd : word = wd
      case neg =>
        have q1 : ((bsOf word).toList == (bsOf wd).toList) = false := by rw [toList_bsOf, toList_bsOf]; simpa using hwd
        have HT0 := hid (show instrTry line ⟨word, so, sb, fields⟩ = none by unfold instrTry; rw [HWR.out]; exact if_neg hwd)
        clear hwd
        go_wp2
        go_quiet (fail)
        go_wp2
        go_roundw
        case rel => exact ⟨k + 1, by omega, by go_num, findSome_snoc _ _ k _ HS.out HF.out HT0.out, bdrewN (bnew HBR.out _)⟩
        case measure => simp [intOf]; omega
      case pos =>
        subst hwd
        have q1 : ((bsOf word).toList == (bsOf word).toList) = true := by simp
        have HWD : Hid (instrTry line ⟨word, so, sb, fields⟩ = match filledOf ⟨word, so, sb, fields⟩ rest with | some i => if mayB i = true ∧ lineL i = line then some i else none | none => none) := hid (by
          unfold instrTry
          rw [HWR.out]
          exact if_pos rfl)
        have HZ := hid (show wr.heap.size < (wr.alloc (.cells #[.string (bsOf word), .int .i64 so, .int .i64 sb, .string (bsOf fields)] 118)).heap.size by simp)
        have HBX := hid (heap_alloc_new wr (.cells #[.string (bsOf word), .int .i64 so, .int .i64 sb, .string (bsOf fields)] 118))
        go_wp2
        go_quiet (fail)
        go_upto_region 6 with fail
        refine wp_rename (fun V => V.heap[wr.heap.size]? = some (.cells #[.string (bsOf word), .int .i64 so, .int .i64 sb, .string (bsOf fields)] 118 (0, 0)) ∧ InstrAt w line (w.heap.size + 1) V ∧ Below w1.heap.size w1 V) ⟨HBX.out, HCR.out.later (bdrewN (bnew (bid wr) _)), bdrewN (bnew HBR.out _)⟩ ?_
        rintro V ⟨hv1, hv2, hv3⟩
        have HV1 := hid hv1
        have HV2 := hid hv2
        have HV3 := hid hv3
        clear hv1 hv2 hv3 cw hlw hix q1 j1 j2 HZ HBX HCR HBR
        have n3 : (1 : Int) ≤ (N : Int) := by omega
        have HROW := hid (fun (W : World) (h : InstrAt w line (w.heap.size + 1) W) => rest_row h HWR.out HNR.out)
        have HG := hid (lt_of_block HV1.out)
        have HC0 : Hid (V.cell? ⟨wr.heap.size, 0, none⟩ = some (.string (bsOf word))) := cell_of_blk HV1.out 0
        have HC1 : Hid (V.cell? ⟨wr.heap.size, 1, none⟩ = some (.int .i64 so)) := cell_of_blk HV1.out 1
        have HC2 : Hid (V.cell? ⟨wr.heap.size, 2, none⟩ = some (.int .i64 sb)) := cell_of_blk HV1.out 2
        have HC3 : Hid (V.cell? ⟨wr.heap.size, 3, none⟩ = some (.string (bsOf fields))) := cell_of_blk HV1.out 3
        go_cut [7, 8] (fun s7 s8 wx => RegAt w w1 line (w.heap.size + 1) ⟨word, so, sb, fields⟩ rest s7 s8 wx)
        case first =>
          cases hfl : filledOf ⟨word, so, sb, fields⟩ rest with
          | none =>
            have HFL := hid hfl
            clear hfl
            refine wp_region_noPanic ?_
            refine wp_region_held_drew (S := fun w' => (w'.cell? ⟨wr.heap.size, 0, none⟩ = some (.string (bsOf word)) ∧ w'.cell? ⟨wr.heap.size, 1, none⟩ = some (.int .i64 so) ∧ w'.cell? ⟨wr.heap.size, 2, none⟩ = some (.int .i64 sb) ∧ w'.cell? ⟨wr.heap.size, 3, none⟩ = some (.string (bsOf fields))) ∧ Below V.heap.size V w') (by kernel_rfl) (keepS (a := V) ⟨⟨HC0.out, HC1.out, HC2.out, HC3.out⟩, bid V⟩ (bdrew (bid V))) (fun hHeld => ?_)
            refine wpAnyH_take (i := 0) (v := ?_) rfl (by kernel_rfl) (by kernel_rfl) (by kernel_rfl) (fun _ _ _ h => h) (Or.inl ⟨by rfl, ?_⟩) (by assumption) ?_
            rotate_left
            · (intro w' hSw; (try dsimp only at hSw); go_simp; try (with_reducible rfl))
            (try simp only [Act.put, List.getElem_toArray, List.getElem_cons_zero, List.getElem_cons_succ, List.setIfInBounds_toArray, List.set_cons_zero, List.set_cons_succ])
            refine wpAnyH_take (i := 1) (v := ?_) rfl (by kernel_rfl) (by kernel_rfl) (by kernel_rfl) (fun _ _ _ h => h) (Or.inl ⟨by rfl, ?_⟩) (by assumption) ?_
            rotate_left
            · (intro w' hSw; (try dsimp only at hSw); go_simp; try (with_reducible rfl))
            (try simp only [Act.put, List.getElem_toArray, List.getElem_cons_zero, List.getElem_cons_succ, List.setIfInBounds_toArray, List.set_cons_zero, List.set_cons_succ])
            refine wpAnyH_take (i := 2) (v := ?_) rfl (by kernel_rfl) (by kernel_rfl) (by kernel_rfl) (fun _ _ _ h => h) (Or.inl ⟨by rfl, ?_⟩) (by assumption) ?_
            rotate_left
            · (intro w' hSw; (try dsimp only at hSw); go_simp; try (with_reducible rfl))
            (try simp only [Act.put, List.getElem_toArray, List.getElem_cons_zero, List.getElem_cons_succ, List.setIfInBounds_toArray, List.set_cons_zero, List.set_cons_succ])
            generalize (if N = 1 then some (Addr.mk (w.heap.size + 1) 0 none) else some (Addr.mk (w.heap.size + 1) 1 none)) = aq at HROW ⊢
            refine wpAnyH_ready (rs := [3, 7]) (by kernel_rfl) (by simp) (AllReadyH.cons rfl (fun K hK => ?_) (AllReadyH.cons rfl (fun K hK => ?_) AllReadyH.nil))
            · skip
              go_simp
              go_at_call 66
              refine (filled_no HFL.out _ _ (HV2.out.tabs.below hHeld.2) (HROW.out _ (HV2.out.later hHeld.2)) HM.out (rest_short HWR.out HL2.out)).mono ?_
              rintro e w3 ⟨⟨i, hi, rfl⟩, hb3⟩
              have hS := keepS hHeld hb3
              have HB3 := hid hb3
              clear hHeld
              clear hb3
              go_wp2_with fail
              refine hK.out _ _ hS (fun hHeld => ?_)
              clear hK K
              (try simp only [Act.put, List.getElem_toArray, List.getElem_cons_zero, List.getElem_cons_succ, List.setIfInBounds_toArray, List.set_cons_zero, List.set_cons_succ])
              refine wpAnyH_take (i := 4) (v := ?_) rfl (by kernel_rfl) (by kernel_rfl) (by kernel_rfl) (fun _ _ _ h => h) (Or.inl ⟨by rfl, ?_⟩) (by assumption) ?_
              rotate_left
              · (intro w' hSw; (try dsimp only at hSw); go_simp; try (with_reducible rfl))
              (try simp only [Act.put, List.getElem_toArray, List.getElem_cons_zero, List.getElem_cons_succ, List.setIfInBounds_toArray, List.set_cons_zero, List.set_cons_succ])
              refine wpAnyH_take (i := 5) (v := ?_) rfl (by kernel_rfl) (by kernel_rfl) (by kernel_rfl) (fun _ _ _ h => h) (Or.inl ⟨by rfl, ?_⟩) (by assumption) ?_
              rotate_left
              · (intro w' hSw; (try dsimp only at hSw); go_simp; try (with_reducible rfl))
              (try simp only [Act.put, List.getElem_toArray, List.getElem_cons_zero, List.getElem_cons_succ, List.setIfInBounds_toArray, List.set_cons_zero, List.set_cons_succ])
              refine wpAnyH_take (i := 6) (v := ?_) rfl (by kernel_rfl) (by kernel_rfl) (by kernel_rfl) (fun _ _ _ h => h) (Or.inl ⟨by rfl, ?_⟩) (by assumption) ?_
              rotate_left
              · (intro w' hSw; (try dsimp only at hSw); go_simp; try (with_reducible rfl))
              (try simp only [Act.put, List.getElem_toArray, List.getElem_cons_zero, List.getElem_cons_succ, List.setIfInBounds_toArray, List.set_cons_zero, List.set_cons_succ])
              refine wpAnyH_ready (rs := [7]) (by kernel_rfl) (by simp) (AllReadyH.cons rfl (fun K hK => ?_) AllReadyH.nil)
              go_simp
              refine hK.out _ _ (keepS hS (bnew (bid _) _)) (fun hHeld => ?_)
              clear hK K
              (try simp only [Act.put, List.getElem_toArray, List.getElem_cons_zero, List.getElem_cons_succ, List.setIfInBounds_toArray, List.set_cons_zero, List.set_cons_succ])
              refine wpAnyH_ready (rs := [8]) (by kernel_rfl) (by simp) (AllReadyH.cons rfl (fun K hK => ?_) AllReadyH.nil)
              go_simp
              refine hK.out _ _ (keepS hS (bnew (bid _) _)) (fun hHeld => ?_)
              clear hK K
              (try simp only [Act.put, List.getElem_toArray, List.getElem_cons_zero, List.getElem_cons_succ, List.setIfInBounds_toArray, List.set_cons_zero, List.set_cons_succ])
              refine wpAnyH_take (i := 9) (v := ?_) rfl (by kernel_rfl) (by kernel_rfl) (by kernel_rfl) (fun _ _ _ h => h) (Or.inl ⟨by rfl, ?_⟩) (by assumption) ?_
              rotate_left
              · (intro w' hSw; (try dsimp only at hSw); go_simp; try (with_reducible rfl))
              (try simp only [Act.put, List.getElem_toArray, List.getElem_cons_zero, List.getElem_cons_succ, List.setIfInBounds_toArray, List.set_cons_zero, List.set_cons_succ])
              refine wpAnyH_done (by kernel_rfl) ?_ _
              refine NoPanic.normal ?_
              go_wp2
              go_meet
              case rel => exact ⟨w3.heap.size, i, rfl, heap_alloc_new w3 (.cells i.cs 40), hi, .inr ⟨rfl, HFL.out⟩, HV2.out.later (keepS hS (bnew (bid w3) _)).2, bthen HV3.out (keepS hS (bnew (bid w3) _)).2⟩
            · skip
              have hh := hHeld
              go_simp
              refine hK.out _ _ (keepS hh (bnew (bid _) _)) (fun hHeld => ?_)
              clear hK K
              (try simp only [Act.put, List.getElem_toArray, List.getElem_cons_zero, List.getElem_cons_succ, List.setIfInBounds_toArray, List.set_cons_zero, List.set_cons_succ])
              clear hh
              refine wpAnyH_ready (rs := [3]) (by kernel_rfl) (by simp) (AllReadyH.cons rfl (fun K hK => ?_) AllReadyH.nil)
              go_simp
              go_at_call 66
              refine (filled_no HFL.out _ _ (HV2.out.tabs.below hHeld.2) (HROW.out _ (HV2.out.later hHeld.2)) HM.out (rest_short HWR.out HL2.out)).mono ?_
              rintro e w3 ⟨⟨i, hi, rfl⟩, hb3⟩
              have hS := keepS hHeld hb3
              have HB3 := hid hb3
              clear hHeld
              have kz := (hb3.block V.heap.size (by simp)).trans (heap_alloc_new V.drew (.cells #[.int .i64 0, .int .i64 0, .int .i64 0, .int .i64 0, .int .i64 0] 40))
              have hkz : V.heap.size < w3.heap.size := lt_of_block kz
              have kc0 : w3.cell? ⟨V.heap.size, 0, none⟩ = some (.int .i64 0) := cell_of_blk kz 0
              have kf0 : w3.frozen? ⟨V.heap.size, 0, none⟩ = false := frozen_of_blk kz 0
              have kc1 : w3.cell? ⟨V.heap.size, 1, none⟩ = some (.int .i64 0) := cell_of_blk kz 1
              have kf1 : w3.frozen? ⟨V.heap.size, 1, none⟩ = false := frozen_of_blk kz 1
              have kc2 : w3.cell? ⟨V.heap.size, 2, none⟩ = some (.int .i64 0) := cell_of_blk kz 2
              have kf2 : w3.frozen? ⟨V.heap.size, 2, none⟩ = false := frozen_of_blk kz 2
              have kc3 : w3.cell? ⟨V.heap.size, 3, none⟩ = some (.int .i64 0) := cell_of_blk kz 3
              have kf3 : w3.frozen? ⟨V.heap.size, 3, none⟩ = false := frozen_of_blk kz 3
              have kc4 : w3.cell? ⟨V.heap.size, 4, none⟩ = some (.int .i64 0) := cell_of_blk kz 4
              have kf4 : w3.frozen? ⟨V.heap.size, 4, none⟩ = false := frozen_of_blk kz 4
              have HKZ := hid kz
              clear hb3 kz
              go_wp2_with fail
              refine hK.out _ _ hS (fun hHeld => ?_)
              clear hK K
              (try simp only [Act.put, List.getElem_toArray, List.getElem_cons_zero, List.getElem_cons_succ, List.setIfInBounds_toArray, List.set_cons_zero, List.set_cons_succ])
              refine wpAnyH_take (i := 4) (v := ?_) rfl (by kernel_rfl) (by kernel_rfl) (by kernel_rfl) (fun _ _ _ h => h) (Or.inl ⟨by rfl, ?_⟩) (by assumption) ?_
              rotate_left
              · (intro w' hSw; (try dsimp only at hSw); go_simp; try (with_reducible rfl))
              (try simp only [Act.put, List.getElem_toArray, List.getElem_cons_zero, List.getElem_cons_succ, List.setIfInBounds_toArray, List.set_cons_zero, List.set_cons_succ])
              refine wpAnyH_take (i := 5) (v := ?_) rfl (by kernel_rfl) (by kernel_rfl) (by kernel_rfl) (fun _ _ _ h => h) (Or.inl ⟨by rfl, ?_⟩) (by assumption) ?_
              rotate_left
              · (intro w' hSw; (try dsimp only at hSw); go_simp; try (with_reducible rfl))
              (try simp only [Act.put, List.getElem_toArray, List.getElem_cons_zero, List.getElem_cons_succ, List.setIfInBounds_toArray, List.set_cons_zero, List.set_cons_succ])
              refine wpAnyH_take (i := 6) (v := ?_) rfl (by kernel_rfl) (by kernel_rfl) (by kernel_rfl) (fun _ _ _ h => h) (Or.inl ⟨by rfl, ?_⟩) (by assumption) ?_
              rotate_left
              · (intro w' hSw; (try dsimp only at hSw); go_simp; try (with_reducible rfl))
              (try simp only [Act.put, List.getElem_toArray, List.getElem_cons_zero, List.getElem_cons_succ, List.setIfInBounds_toArray, List.set_cons_zero, List.set_cons_succ])
              refine wpAnyH_ready (rs := [8]) (by kernel_rfl) (by simp) (AllReadyH.cons rfl (fun K hK => ?_) AllReadyH.nil)
              go_simp
              have hS5 := fun x0 x1 x2 x3 x4 : Value => (keepSet HG.out (keepSet HG.out (keepSet HG.out (keepSet HG.out (keepSet HG.out hS ⟨V.heap.size, 0, none⟩ x0 (Nat.le_refl _)) ⟨V.heap.size, 1, none⟩ x1 (Nat.le_refl _)) ⟨V.heap.size, 2, none⟩ x2 (Nat.le_refl _)) ⟨V.heap.size, 3, none⟩ x3 (Nat.le_refl _)) ⟨V.heap.size, 4, none⟩ x4 (Nat.le_refl _))
              refine hK.out _ _ (hS5 _ _ _ _ _) (fun hHeld => ?_)
              clear hK K
              (try simp only [Act.put, List.getElem_toArray, List.getElem_cons_zero, List.getElem_cons_succ, List.setIfInBounds_toArray, List.set_cons_zero, List.set_cons_succ])
              refine wpAnyH_take (i := 9) (v := ?_) rfl (by kernel_rfl) (by kernel_rfl) (by kernel_rfl) (fun _ _ _ h => h) (Or.inl ⟨by rfl, ?_⟩) (by assumption) ?_
              rotate_left
              · (intro w' hSw; (try dsimp only at hSw); go_simp; try (with_reducible rfl))
              (try simp only [Act.put, List.getElem_toArray, List.getElem_cons_zero, List.getElem_cons_succ, List.setIfInBounds_toArray, List.set_cons_zero, List.set_cons_succ])
              refine wpAnyH_done (by kernel_rfl) ?_ _
              refine NoPanic.normal ?_
              go_wp2
              go_meet
              case rel => exact ⟨V.heap.size, i, rfl, store5 i HKZ.out, hi, .inr ⟨rfl, HFL.out⟩, HV2.out.later (hS5 _ _ _ _ _).2, bthen HV3.out (hS5 _ _ _ _ _).2⟩
          | some i =>
            have HFL := hid hfl
            clear hfl
            refine wp_region_noPanic ?_
            refine wp_region_held_drew (S := fun w' => (w'.cell? ⟨wr.heap.size, 0, none⟩ = some (.string (bsOf word)) ∧ w'.cell? ⟨wr.heap.size, 1, none⟩ = some (.int .i64 so) ∧ w'.cell? ⟨wr.heap.size, 2, none⟩ = some (.int .i64 sb) ∧ w'.cell? ⟨wr.heap.size, 3, none⟩ = some (.string (bsOf fields))) ∧ Below V.heap.size V w') (by kernel_rfl) (keepS (a := V) ⟨⟨HC0.out, HC1.out, HC2.out, HC3.out⟩, bid V⟩ (bdrew (bid V))) (fun hHeld => ?_)
            refine wpAnyH_take (i := 0) (v := ?_) rfl (by kernel_rfl) (by kernel_rfl) (by kernel_rfl) (fun _ _ _ h => h) (Or.inl ⟨by rfl, ?_⟩) (by assumption) ?_
            rotate_left
            · (intro w' hSw; (try dsimp only at hSw); go_simp; try (with_reducible rfl))
            (try simp only [Act.put, List.getElem_toArray, List.getElem_cons_zero, List.getElem_cons_succ, List.setIfInBounds_toArray, List.set_cons_zero, List.set_cons_succ])
            refine wpAnyH_take (i := 1) (v := ?_) rfl (by kernel_rfl) (by kernel_rfl) (by kernel_rfl) (fun _ _ _ h => h) (Or.inl ⟨by rfl, ?_⟩) (by assumption) ?_
            rotate_left
            · (intro w' hSw; (try dsimp only at hSw); go_simp; try (with_reducible rfl))
            (try simp only [Act.put, List.getElem_toArray, List.getElem_cons_zero, List.getElem_cons_succ, List.setIfInBounds_toArray, List.set_cons_zero, List.set_cons_succ])
            refine wpAnyH_take (i := 2) (v := ?_) rfl (by kernel_rfl) (by kernel_rfl) (by kernel_rfl) (fun _ _ _ h => h) (Or.inl ⟨by rfl, ?_⟩) (by assumption) ?_
            rotate_left
            · (intro w' hSw; (try dsimp only at hSw); go_simp; try (with_reducible rfl))
            (try simp only [Act.put, List.getElem_toArray, List.getElem_cons_zero, List.getElem_cons_succ, List.setIfInBounds_toArray, List.set_cons_zero, List.set_cons_succ])
            generalize (if N = 1 then some (Addr.mk (w.heap.size + 1) 0 none) else some (Addr.mk (w.heap.size + 1) 1 none)) = aq at HROW ⊢
            refine wpAnyH_ready (rs := [3, 7]) (by kernel_rfl) (by simp) (AllReadyH.cons rfl (fun K hK => ?_) (AllReadyH.cons rfl (fun K hK => ?_) AllReadyH.nil))
            · skip
              go_simp
              go_at_call 66
              refine (filled_yes HFL.out _ _ (HV2.out.tabs.below hHeld.2) (HROW.out _ (HV2.out.later hHeld.2)) HM.out (rest_short HWR.out HL2.out)).mono ?_
              rintro e w3 ⟨rfl, hb3⟩
              have hS := keepS hHeld hb3
              have HB3 := hid hb3
              clear hHeld
              clear hb3
              go_wp2_with fail
              refine hK.out _ _ hS (fun hHeld => ?_)
              clear hK K
              (try simp only [Act.put, List.getElem_toArray, List.getElem_cons_zero, List.getElem_cons_succ, List.setIfInBounds_toArray, List.set_cons_zero, List.set_cons_succ])
              refine wpAnyH_take (i := 4) (v := ?_) rfl (by kernel_rfl) (by kernel_rfl) (by kernel_rfl) (fun _ _ _ h => h) (Or.inl ⟨by rfl, ?_⟩) (by assumption) ?_
              rotate_left
              · (intro w' hSw; (try dsimp only at hSw); go_simp; try (with_reducible rfl))
              (try simp only [Act.put, List.getElem_toArray, List.getElem_cons_zero, List.getElem_cons_succ, List.setIfInBounds_toArray, List.set_cons_zero, List.set_cons_succ])
              refine wpAnyH_take (i := 5) (v := ?_) rfl (by kernel_rfl) (by kernel_rfl) (by kernel_rfl) (fun _ _ _ h => h) (Or.inl ⟨by rfl, ?_⟩) (by assumption) ?_
              rotate_left
              · (intro w' hSw; (try dsimp only at hSw); go_simp; try (with_reducible rfl))
              (try simp only [Act.put, List.getElem_toArray, List.getElem_cons_zero, List.getElem_cons_succ, List.setIfInBounds_toArray, List.set_cons_zero, List.set_cons_succ])
              refine wpAnyH_take (i := 6) (v := ?_) rfl (by kernel_rfl) (by kernel_rfl) (by kernel_rfl) (fun _ _ _ h => h) (Or.inl ⟨by rfl, ?_⟩) (by assumption) ?_
              rotate_left
              · (intro w' hSw; (try dsimp only at hSw); go_simp; try (with_reducible rfl))
              (try simp only [Act.put, List.getElem_toArray, List.getElem_cons_zero, List.getElem_cons_succ, List.setIfInBounds_toArray, List.set_cons_zero, List.set_cons_succ])
              refine wpAnyH_ready (rs := [7]) (by kernel_rfl) (by simp) (AllReadyH.cons rfl (fun K hK => ?_) AllReadyH.nil)
              go_simp
              refine hK.out _ _ (keepS hS (bnew (bid _) _)) (fun hHeld => ?_)
              clear hK K
              (try simp only [Act.put, List.getElem_toArray, List.getElem_cons_zero, List.getElem_cons_succ, List.setIfInBounds_toArray, List.set_cons_zero, List.set_cons_succ])
              refine wpAnyH_ready (rs := [8]) (by kernel_rfl) (by simp) (AllReadyH.cons rfl (fun K hK => ?_) AllReadyH.nil)
              go_simp
              refine hK.out _ _ (keepS hS (bnew (bid _) _)) (fun hHeld => ?_)
              clear hK K
              (try simp only [Act.put, List.getElem_toArray, List.getElem_cons_zero, List.getElem_cons_succ, List.setIfInBounds_toArray, List.set_cons_zero, List.set_cons_succ])
              refine wpAnyH_take (i := 9) (v := ?_) rfl (by kernel_rfl) (by kernel_rfl) (by kernel_rfl) (fun _ _ _ h => h) (Or.inl ⟨by rfl, ?_⟩) (by assumption) ?_
              rotate_left
              · (intro w' hSw; (try dsimp only at hSw); go_simp; try (with_reducible rfl))
              (try simp only [Act.put, List.getElem_toArray, List.getElem_cons_zero, List.getElem_cons_succ, List.setIfInBounds_toArray, List.set_cons_zero, List.set_cons_succ])
              refine wpAnyH_done (by kernel_rfl) ?_ _
              refine NoPanic.normal ?_
              go_wp2
              go_meet
              case rel => exact ⟨w3.heap.size, i, rfl, heap_alloc_new w3 (.cells i.cs 40), (filledOf_ok HFL.out), .inl ⟨rfl, HFL.out⟩, HV2.out.later (keepS hS (bnew (bid w3) _)).2, bthen HV3.out (keepS hS (bnew (bid w3) _)).2⟩
            · skip
              have hh := hHeld
              go_simp
              refine hK.out _ _ (keepS hh (bnew (bid _) _)) (fun hHeld => ?_)
              clear hK K
              (try simp only [Act.put, List.getElem_toArray, List.getElem_cons_zero, List.getElem_cons_succ, List.setIfInBounds_toArray, List.set_cons_zero, List.set_cons_succ])
              clear hh
              refine wpAnyH_ready (rs := [3]) (by kernel_rfl) (by simp) (AllReadyH.cons rfl (fun K hK => ?_) AllReadyH.nil)
              go_simp
              go_at_call 66
              refine (filled_yes HFL.out _ _ (HV2.out.tabs.below hHeld.2) (HROW.out _ (HV2.out.later hHeld.2)) HM.out (rest_short HWR.out HL2.out)).mono ?_
              rintro e w3 ⟨rfl, hb3⟩
              have hS := keepS hHeld hb3
              have HB3 := hid hb3
              clear hHeld
              have kz := (hb3.block V.heap.size (by simp)).trans (heap_alloc_new V.drew (.cells #[.int .i64 0, .int .i64 0, .int .i64 0, .int .i64 0, .int .i64 0] 40))
              have hkz : V.heap.size < w3.heap.size := lt_of_block kz
              have kc0 : w3.cell? ⟨V.heap.size, 0, none⟩ = some (.int .i64 0) := cell_of_blk kz 0
              have kf0 : w3.frozen? ⟨V.heap.size, 0, none⟩ = false := frozen_of_blk kz 0
              have kc1 : w3.cell? ⟨V.heap.size, 1, none⟩ = some (.int .i64 0) := cell_of_blk kz 1
              have kf1 : w3.frozen? ⟨V.heap.size, 1, none⟩ = false := frozen_of_blk kz 1
              have kc2 : w3.cell? ⟨V.heap.size, 2, none⟩ = some (.int .i64 0) := cell_of_blk kz 2
              have kf2 : w3.frozen? ⟨V.heap.size, 2, none⟩ = false := frozen_of_blk kz 2
              have kc3 : w3.cell? ⟨V.heap.size, 3, none⟩ = some (.int .i64 0) := cell_of_blk kz 3
              have kf3 : w3.frozen? ⟨V.heap.size, 3, none⟩ = false := frozen_of_blk kz 3
              have kc4 : w3.cell? ⟨V.heap.size, 4, none⟩ = some (.int .i64 0) := cell_of_blk kz 4
              have kf4 : w3.frozen? ⟨V.heap.size, 4, none⟩ = false := frozen_of_blk kz 4
              have HKZ := hid kz
              clear hb3 kz
              go_wp2_with fail
              refine hK.out _ _ hS (fun hHeld => ?_)
              clear hK K
              (try simp only [Act.put, List.getElem_toArray, List.getElem_cons_zero, List.getElem_cons_succ, List.setIfInBounds_toArray, List.set_cons_zero, List.set_cons_succ])
              refine wpAnyH_take (i := 4) (v := ?_) rfl (by kernel_rfl) (by kernel_rfl) (by kernel_rfl) (fun _ _ _ h => h) (Or.inl ⟨by rfl, ?_⟩) (by assumption) ?_
              rotate_left
              · (intro w' hSw; (try dsimp only at hSw); go_simp; try (with_reducible rfl))
              (try simp only [Act.put, List.getElem_toArray, List.getElem_cons_zero, List.getElem_cons_succ, List.setIfInBounds_toArray, List.set_cons_zero, List.set_cons_succ])
              refine wpAnyH_take (i := 5) (v := ?_) rfl (by kernel_rfl) (by kernel_rfl) (by kernel_rfl) (fun _ _ _ h => h) (Or.inl ⟨by rfl, ?_⟩) (by assumption) ?_
              rotate_left
              · (intro w' hSw; (try dsimp only at hSw); go_simp; try (with_reducible rfl))
              (try simp only [Act.put, List.getElem_toArray, List.getElem_cons_zero, List.getElem_cons_succ, List.setIfInBounds_toArray, List.set_cons_zero, List.set_cons_succ])
              refine wpAnyH_take (i := 6) (v := ?_) rfl (by kernel_rfl) (by kernel_rfl) (by kernel_rfl) (fun _ _ _ h => h) (Or.inl ⟨by rfl, ?_⟩) (by assumption) ?_
              rotate_left
              · (intro w' hSw; (try dsimp only at hSw); go_simp; try (with_reducible rfl))
              (try simp only [Act.put, List.getElem_toArray, List.getElem_cons_zero, List.getElem_cons_succ, List.setIfInBounds_toArray, List.set_cons_zero, List.set_cons_succ])
              refine wpAnyH_ready (rs := [8]) (by kernel_rfl) (by simp) (AllReadyH.cons rfl (fun K hK => ?_) AllReadyH.nil)
              go_simp
              have hS5 := fun x0 x1 x2 x3 x4 : Value => (keepSet HG.out (keepSet HG.out (keepSet HG.out (keepSet HG.out (keepSet HG.out hS ⟨V.heap.size, 0, none⟩ x0 (Nat.le_refl _)) ⟨V.heap.size, 1, none⟩ x1 (Nat.le_refl _)) ⟨V.heap.size, 2, none⟩ x2 (Nat.le_refl _)) ⟨V.heap.size, 3, none⟩ x3 (Nat.le_refl _)) ⟨V.heap.size, 4, none⟩ x4 (Nat.le_refl _))
              refine hK.out _ _ (hS5 _ _ _ _ _) (fun hHeld => ?_)
              clear hK K
              (try simp only [Act.put, List.getElem_toArray, List.getElem_cons_zero, List.getElem_cons_succ, List.setIfInBounds_toArray, List.set_cons_zero, List.set_cons_succ])
              refine wpAnyH_take (i := 9) (v := ?_) rfl (by kernel_rfl) (by kernel_rfl) (by kernel_rfl) (fun _ _ _ h => h) (Or.inl ⟨by rfl, ?_⟩) (by assumption) ?_
              rotate_left
              · (intro w' hSw; (try dsimp only at hSw); go_simp; try (with_reducible rfl))
              (try simp only [Act.put, List.getElem_toArray, List.getElem_cons_zero, List.getElem_cons_succ, List.setIfInBounds_toArray, List.set_cons_zero, List.set_cons_succ])
              refine wpAnyH_done (by kernel_rfl) ?_ _
              refine NoPanic.normal ?_
              go_wp2
              go_meet
              case rel => exact ⟨V.heap.size, i, rfl, store5 i HKZ.out, (filledOf_ok HFL.out), .inl ⟨rfl, HFL.out⟩, HV2.out.later (hS5 _ _ _ _ _).2, bthen HV3.out (hS5 _ _ _ _ _).2⟩
        case rest =>
          clear HV1 HV2 HV3 HG HC0 HC1 HC2 HC3 n3 HROW
          obtain ⟨g, i, rfl, hx1, hi, hfl, hx2, hx3⟩ := hcut
          have x0 : wc.cell? ⟨g, 0, none⟩ = some (.int .i64 i.op) := cell_of_blk hx1 0
          have x1 : wc.cell? ⟨g, 1, none⟩ = some (.int .i64 i.a) := cell_of_blk hx1 1
          have x2 : wc.cell? ⟨g, 2, none⟩ = some (.int .i64 i.b) := cell_of_blk hx1 2
          have x3 : wc.cell? ⟨g, 3, none⟩ = some (.int .i64 i.c) := cell_of_blk hx1 3
          have x4 : wc.cell? ⟨g, 4, none⟩ = some (.int .i64 i.n) := cell_of_blk hx1 4
          have hgl := lt_of_block hx1
          have HX2 := hid hx2
          have HX3 := hid hx3
          have LN := fun W hT => Line_any i hi W hT
          dsimp only [Ins.v] at LN
          clear hx1 hx2 hx3 hi
          rcases hfl with ⟨rfl, hfl⟩ | ⟨rfl, hfl⟩
          case inr =>
            have HFL := hid hfl
            have HLN := hid LN
            clear LN hfl
            go_wp2_with (go_at_call 67; (with_reducible refine (HLN.out _ HX2.out.tabs).mono ?_); rintro e w6 ⟨rfl, hb6⟩; have HX6 := hid (HX2.out.later hb6); have HB6 := hid (bthen HX3.out hb6);  clear hb6)
            go_roundw
            case rel => exact ⟨k + 1, by omega, by go_num, findSome_snoc _ _ k _ HS.out HF.out (by rw [HWD.out, HFL.out]), HB6.out⟩
            case measure => simp [intOf]; omega
          case inl =>
            have HFL := hid hfl
            clear hfl
            cases hmy : mayB i
            · rw [hmy] at LN
              have HLN := hid LN
              have HMY := hid hmy
              clear LN hmy
              go_wp2_with (go_at_call 67; (with_reducible refine (HLN.out _ HX2.out.tabs).mono ?_); rintro e w6 ⟨rfl, hb6⟩; have HX6 := hid (HX2.out.later hb6); have HB6 := hid (bthen HX3.out hb6);  clear hb6)
              go_roundw
              case rel => exact ⟨k + 1, by omega, by go_num, findSome_snoc _ _ k _ HS.out HF.out (by rw [HWD.out, HFL.out]; exact if_neg (fun h => by have h1 := h.1; rw [HMY.out] at h1; cases h1)), HB6.out⟩
              case measure => simp [intOf]; omega
            · rw [hmy] at LN
              have HLN := hid LN
              have HMY := hid hmy
              clear LN hmy
              by_cases hll : lineL i = line
              · have q2 : ((bsOf (lineL i)).toList == (bsOf line).toList) = true := by rw [hll]; simp
                have HLL := hid hll
                clear hll
                go_wp2_with (go_at_call 67; (with_reducible refine (HLN.out _ HX2.out.tabs).mono ?_); rintro e w6 ⟨rfl, hb6⟩; have HX6 := hid (HX2.out.later hb6); have HB6 := hid (bthen HX3.out hb6); have kr := HX6.out.res; have e0 := cell_of_blk kr 0; have f0 := frozen_of_blk kr 0; have e1 := cell_of_blk kr 1; have f1 := frozen_of_blk kr 1; have e2 := cell_of_blk kr 2; have f2 := frozen_of_blk kr 2; have e3 := cell_of_blk kr 3; have f3 := frozen_of_blk kr 3; have e4 := cell_of_blk kr 4; have f4 := frozen_of_blk kr 4; have y0 : w6.cell? ⟨g, 0, none⟩ = some (.int .i64 i.op) := (hb6.cell (p := ⟨g, 0, none⟩) hgl).trans x0; have y1 : w6.cell? ⟨g, 1, none⟩ = some (.int .i64 i.a) := (hb6.cell (p := ⟨g, 1, none⟩) hgl).trans x1; have y2 : w6.cell? ⟨g, 2, none⟩ = some (.int .i64 i.b) := (hb6.cell (p := ⟨g, 2, none⟩) hgl).trans x2; have y3 : w6.cell? ⟨g, 3, none⟩ = some (.int .i64 i.c) := (hb6.cell (p := ⟨g, 3, none⟩) hgl).trans x3; have y4 : w6.cell? ⟨g, 4, none⟩ = some (.int .i64 i.n) := (hb6.cell (p := ⟨g, 4, none⟩) hgl).trans x4; clear kr; clear hb6)
                refine bodyPost_ret (v := .tuple #[i.v, .bool true]) (by simp [results, Tryz.results42, go_sem, e0, e1, e2, e3, e4, y0, y1, y2, y3, y4]) rfl ⟨.inl ⟨i, ?_, rfl⟩, ?_⟩
                · unfold instrOf
                  exact findSome_hit _ _ k _ _ HS.out HF.out (by rw [HWD.out, HFL.out]; exact if_pos ⟨HMY.out, HLL.out⟩)
                · (repeat (refine Below.setCell ?_ (by dsimp only; omega) _))
                  exact HX6.out.below
              · have q2 : ((bsOf (lineL i)).toList == (bsOf line).toList) = false := by rw [toList_bsOf, toList_bsOf]; simpa using hll
                have HLL := hid hll
                clear hll
                go_wp2_with (go_at_call 67; (with_reducible refine (HLN.out _ HX2.out.tabs).mono ?_); rintro e w6 ⟨rfl, hb6⟩; have HX6 := hid (HX2.out.later hb6); have HB6 := hid (bthen HX3.out hb6);  clear hb6)
                go_roundw
                case rel => exact ⟨k + 1, by omega, by go_num, findSome_snoc _ _ k _ HS.out HF.out (by rw [HWD.out, HFL.out]; exact if_neg (fun h => HLL.out h.2)), HB6.out⟩
                case measure => simp [intOf]; omega
    · obtain rfl : k = 23 := by omega
      have HNO := hid (show instrOf line = none by unfold instrOf; rw [show shps = shps.take 23 from rfl, HF.out])
      have kr := HCR.out.res
      have e0 := cell_of_blk kr 0
      have f0 := frozen_of_blk kr 0
      have e1 := cell_of_blk kr 1
      have f1 := frozen_of_blk kr 1
      have e2 := cell_of_blk kr 2
      have f2 := frozen_of_blk kr 2
      have e3 := cell_of_blk kr 3
      have f3 := frozen_of_blk kr 3
      have e4 := cell_of_blk kr 4
      have f4 := frozen_of_blk kr 4
      clear hlt kr n1 n2
      go_wp2
      refine bodyPost_ret (v := .tuple #[Ins.zero.v, .bool false]) (by simp [results, Tryz.results42, go_sem, e0, e1, e2, e3, e4]; first | done | rfl | exact ⟨rfl, rfl, rfl, rfl, rfl⟩) rfl ⟨.inr ⟨HNO.out, rfl⟩, ?_⟩
      (repeat (refine Below.setCell ?_ (by dsimp only; omega) _))
      exact HCR.out.below

end Go.Proofs.YtbobjhadckeieaaGreatDoor
