/-
  Arguments of layer 6, opened to their cells: eight numbers; rows of numbers. Few. What layer 6's Build makes has no fault: in plain words. CheckBuilt, walked.
-/
import Derived.Test.YtbobjhadckeieaaDoorKBuild
import Derived.Test.YtbobjhadckeieaaDoorArr
import Derived.ChangeOld
import Derived.Test.YtbobjhadckeieaaDoorKTold
namespace Go.Proofs.YtbobjhadckeieaaDoor
open Go.RowKit Go.ChangeShapes Go.WideShapes Go.ChangeAt Go.Deep
set_option linter.unusedVariables false

set_option maxRecDepth 100000 in
theorem open_k8 {H : Type} {enc : TypeId × Value → H} {w : World} {base : Nat} {spare : Nat → Bool} {held : Bool} {r : Reach} {b0 : Nat} {v : Value} {d : DataW H} {p : List MemPlace}
    (hv : Value.okWide Tryd.prog w r b0 22 v) (h : DataW.Trod enc Tryd.prog w base spare held 22 v d p) : ∃ k : K8, v = k.v ∧ ((-9223372036854775808 ≤ k.k0 ∧ k.k0 ≤ 9223372036854775807) ∧ (-9223372036854775808 ≤ k.k1 ∧ k.k1 ≤ 9223372036854775807) ∧ (-9223372036854775808 ≤ k.k2 ∧ k.k2 ≤ 9223372036854775807) ∧ (-9223372036854775808 ≤ k.k3 ∧ k.k3 ≤ 9223372036854775807) ∧ (-9223372036854775808 ≤ k.k4 ∧ k.k4 ≤ 9223372036854775807) ∧ (-9223372036854775808 ≤ k.k5 ∧ k.k5 ≤ 9223372036854775807) ∧ (-9223372036854775808 ≤ k.k6 ∧ k.k6 ≤ 9223372036854775807) ∧ (-9223372036854775808 ≤ k.k7 ∧ k.k7 ≤ 9223372036854775807)) := by
  obtain ⟨zs, h1, rfl, hw⟩ := open_arr_ints Tryd.underlying22 Tryd.underlying3 (by kernel_rfl) (by kernel_rfl) hv h
  have hb : ∀ z ∈ zs, -9223372036854775808 ≤ z ∧ z ≤ 9223372036854775807 := fun z hz => by
    have := hw z hz
    simpa [Lit.wf, IntKind.min, IntKind.max, IntKind.signed, IntKind.bits] using this
  match zs, h1, hb with
  | [a, b, c, d, e, f, g, i], _, hb => exact ⟨⟨a, b, c, d, e, f, g, i⟩, by simp, hb a (by simp), hb b (by simp), hb c (by simp), hb d (by simp), hb e (by simp), hb f (by simp), hb g (by simp), hb i (by simp)⟩

/-- A slice of slices of integers, of any lengths. -/
structure RowsRaw (w : World) (a : Option Addr) (n : Nat) (zss : List (List Int)) : Prop where
  cnt : zss.length = n
  row : n = 0 ∨ ∃ b off, a = some ⟨b, off, none⟩ ∧ b < w.heap.size ∧ ∀ k zs, zss[k]? = some zs → zs.length ≤ maxLen ∧ ∃ ra rc, w.cell? ⟨b, off + k, none⟩ = some (.slice ra zs.length rc) ∧ IntRow w ra zs.length zs
theorem RowsRaw.below {w w' : World} {a : Option Addr} {n : Nat} {zss : List (List Int)} (h : RowsRaw w a n zss) (hb : Below w.heap.size w w') : RowsRaw w' a n zss := by
  refine ⟨h.cnt, ?_⟩
  rcases h.row with h' | ⟨b, off, h1, h2, h3⟩
  · exact .inl h'
  · refine .inr ⟨b, off, h1, Nat.lt_of_lt_of_le h2 hb.size, fun k zs hk => ?_⟩
    obtain ⟨q0, ra, rc, q1, q2⟩ := h3 k zs hk
    exact ⟨q0, ra, rc, (hb.cell (p := ⟨b, off + k, none⟩) h2).trans q1, q2.below hb⟩
theorem RowsRaw.at {w : World} {a : Option Addr} {n : Nat} {zss : List (List Int)} (h : RowsRaw w a n zss) {k : Nat} (hk : k < n) :
    ∃ b off zs ra rc, a = some ⟨b, off, none⟩ ∧ b < w.heap.size ∧ zss[k]? = some zs ∧ zs.length ≤ maxLen ∧ w.cell? ⟨b, off + k, none⟩ = some (.slice ra zs.length rc) ∧ IntRow w ra zs.length zs := by
  have hl : k < zss.length := by rw [h.cnt]; exact hk
  rcases h.row with h' | ⟨b, off, h1, h2, h3⟩
  · omega
  · obtain ⟨q0, ra, rc, q1, q2⟩ := h3 k zss[k] (List.getElem?_eq_getElem hl)
    exact ⟨b, off, zss[k], ra, rc, h1, h2, List.getElem?_eq_getElem hl, q0, q1, q2⟩
theorem RowsRaw.small {w : World} {a : Option Addr} {n : Nat} {zss : List (List Int)} (h : RowsRaw w a n zss) (hs : ∀ zs ∈ zss, zs.length ≤ 1000000) : RowsRow w a n zss := by
  refine ⟨h.cnt, ?_⟩
  rcases h.row with h' | ⟨b, off, h1, h2, h3⟩
  · exact .inl h'
  · refine .inr ⟨b, off, h1, h2, fun k zs hk => ?_⟩
    obtain ⟨q0, ra, rc, q1, q2⟩ := h3 k zs hk
    exact ⟨hs zs (List.mem_of_getElem? hk), ra, rc, q1, q2⟩

set_option maxRecDepth 100000 in
theorem open_rowsraw {H : Type} {enc : TypeId × Value → H} {W : World} {base : Nat} {sp : Nat → Bool} {held : Bool} {v : Value} {d : DataW H} {p : List MemPlace} {b0 : Nat} (hv : Value.okWide Tryd.prog W .any b0 23 v)
    (h : DataW.Trod enc Tryd.prog W base sp held 23 v d p) : ∃ a len cap zss, v = .slice a len cap ∧ RowsRaw W a len zss ∧ len ≤ maxLen := by
  obtain ⟨a, len, cap, rfl⟩ := okWide_slice Tryd.underlying23 hv
  obtain ⟨fuel, hf⟩ := h
  rcases open_slice1 Tryd.underlying23 (by kernel_rfl) hf with ⟨hcs, _⟩ | ⟨x, l, c, m, n, V, D, Pl, hcs, _, hl, hm, hmm, _, hel⟩
  · simp [Value.cells] at hcs
    obtain ⟨rfl, rfl, rfl⟩ := hcs
    exact ⟨none, 0, 0, [], rfl, ⟨rfl, .inl rfl⟩, Nat.zero_le _⟩
  · simp [Value.cells] at hcs
    obtain ⟨rfl, rfl, rfl⟩ := hcs
    have hlm : len ≤ m := by rw [hmm]; split <;> omega
    have key : ∀ i, i < len → ∃ zs : List Int, zs.length ≤ maxLen ∧ ∃ ra rc, W.cell? (x.add i) = some (.slice ra zs.length rc) ∧ IntRow W ra zs.length zs := by
      intro i hi
      obtain ⟨hc, ht⟩ := hel i (by omega)
      rcases open_ints Tryd.underlying28 Tryd.underlying3 (by kernel_rfl) ht with ⟨he, _⟩ | ⟨y, l2, c2, zs, he, _, hl2, hm2, hz, _, hcell, _⟩
      · simp at he
        rw [he] at hc
        exact ⟨[], Nat.zero_le _, none, 0, hc, rfl, .inl ⟨rfl, rfl⟩⟩
      · simp at he
        rw [he] at hc
        have hz' : l2 ≤ zs.length := by rw [hz]; split <;> omega
        have hlt : (zs.take l2).length = l2 := by rw [List.length_take]; omega
        refine ⟨zs.take l2, by omega, some y, c2, by rw [hlt]; exact hc, rfl, .inr ⟨y, rfl, fun j hj => ?_⟩⟩
        rw [hlt] at hj
        rw [hcell j (by omega)]
        simp [List.getElem?_take, hj]
    have list : ∀ n, n ≤ len → ∃ rs : List (List Int), rs.length = n ∧ ∀ (k : Nat) (zs : List Int), rs[k]? = some zs → zs.length ≤ maxLen ∧ ∃ ra rc, W.cell? (x.add k) = some (.slice ra zs.length rc) ∧ IntRow W ra zs.length zs := by
      intro n
      induction n with
      | zero => intro _; exact ⟨[], rfl, fun k r h => by simp at h⟩
      | succ n ih =>
        intro hn
        obtain ⟨rs, h1, h3⟩ := ih (by omega)
        obtain ⟨r, hc⟩ := key n (by omega)
        refine ⟨rs ++ [r], by simp [h1], fun k q hq => ?_⟩
        by_cases hk : k < rs.length
        · rw [List.getElem?_append_left hk] at hq
          exact h3 k q hq
        · have hkl := (List.getElem?_eq_some_iff.1 hq).1
          simp at hkl
          have hkn : k = n := by omega
          subst hkn
          rw [List.getElem?_append_right (by omega)] at hq
          simp [h1] at hq
          subst hq
          exact hc
    obtain ⟨rs, h1, h3⟩ := list len (Nat.le_refl _)
    refine ⟨some x, len, cap, rs, rfl, ⟨h1, ?_⟩, Nat.le_trans hl hm⟩
    by_cases h0 : len = 0
    · exact .inl h0
    · obtain ⟨b, off, spn⟩ := x
      have hr0 : rs[0]? = some rs[0] := List.getElem?_eq_getElem (by omega)
      obtain ⟨_, ra, rc, hz, _⟩ := h3 0 _ hr0
      have hsp : spn = none := by
        cases spn with
        | none => rfl
        | some q =>
          exfalso
          rw [add_zero] at hz
          simp only [World.cell?] at hz
          split at hz <;> simp at hz
      subst hsp
      have hlt := World.block_lt_of_cell? W _ hz
      rw [block_add] at hlt
      refine .inr ⟨b, off, rfl, hlt, fun k r hk => ?_⟩
      have := h3 k r hk
      rw [add_at] at this
      exact this

def fewB (zss : List (List Int)) (m : Nat) : Bool := (zss.take 5).all (fun zs => decide (zs.length ≤ m)) && decide (zss.length ≤ 4)
theorem fewB_yes {zss : List (List Int)} {m : Nat} (h : fewB zss m = true) : zss.length ≤ 4 ∧ ∀ zs ∈ zss, zs.length ≤ m := by
  unfold fewB at h
  simp only [Bool.and_eq_true, List.all_eq_true, decide_eq_true_eq] at h
  refine ⟨h.2, fun zs hz => h.1 zs ?_⟩
  rw [List.take_of_length_le (by omega)]
  exact hz

set_option maxRecDepth 100000 in
theorem Few_any (a : Option Addr) (n c m : Nat) (zss : List (List Int)) (w : World) (hr : RowsRaw w a n zss) (hn : n ≤ maxLen) (hm : m ≤ 1000) :
    Calls Tryd.prog 6 #[.slice a n c, .int .i64 m] w fun e w' => e = .returned (.bool (fewB zss m)) ∧ Below w.heap.size w w' := by
  have HR := hid hr
  have hcnt := hr.cnt
  have hn' : (n : Int) ≤ 9223372036854775807 := by unfold maxLen at hn; omega
  clear hr
  go_enter Tryd.func6, Tryd.ntmps6
  go_wp2_with fail
  go_loopw [5] (fun i wr => ∃ k : Nat, k ≤ n ∧ k ≤ 5 ∧ i = .int .i64 k ∧ (zss.take k).all (fun zs => decide (zs.length ≤ m)) = true ∧ w = wr) (fun i _ => 5 - (intOf i).toNat)
  case atStart => exact ⟨0, Nat.zero_le _, by omega, rfl, by simp, rfl⟩
  case round =>
    obtain ⟨k, hk, hk5, rfl, hall, rfl⟩ := hrel
    have HA := hid hall
    clear hall
    by_cases hlt : k < n ∧ k < 5
    · obtain ⟨hlt, hl5⟩ := hlt
      obtain ⟨b, off, zs, ra, rc, rfl, hbl, hzs, hzl, hcell, hir⟩ := HR.out.at hlt
      have hz' : (zs.length : Int) ≤ 9223372036854775807 := by unfold maxLen at hzl; omega
      have i0 : (0 : Int) ≤ (k : Int) := by omega
      have i1 : (k : Int) < ((n : Nat) : Int) := by omega
      have i5 : (k : Int) < 5 := by omega
      have HZ := hid hzs
      clear hzs hir
      by_cases hlm : zs.length ≤ m
      · have e1 : ¬ (m : Int) < (zs.length : Int) := by omega
        have HLM := hid hlm
        go_wp2
        go_roundw
        case rel =>
          refine ⟨k + 1, by omega, by omega, by go_num, ?_, by trivial⟩
          rw [List.take_add_one, HZ.out, List.all_append, HA.out]
          simp [HLM.out]
        case measure => simp [intOf]; omega
      · have e1 : (m : Int) < (zs.length : Int) := by omega
        have HF : Hid (fewB zss m = false) := hid (by
          unfold fewB
          have : (zss.take 5).all (fun zs => decide (zs.length ≤ m)) = false := by
            rw [List.all_eq_false]
            refine ⟨zs, List.mem_of_getElem? (i := k) ?_, by simpa using hlm⟩
            rw [List.getElem?_take, if_pos hl5]
            exact HZ.out
          rw [this]
          rfl)
        go_wp2
        go_ret
        exact ⟨by rw [HF.out] <;> rfl, bid w⟩
    · have HF : Hid (fewB zss m = decide ((n : Int) ≤ 4)) := hid (by
        unfold fewB
        have e : zss.take 5 = zss.take k := by
          by_cases h5 : k = 5
          · rw [h5]
          · have : k = n := by omega
            rw [List.take_of_length_le (by omega), List.take_of_length_le (by omega)]
        rw [e, HA.out, Bool.true_and, hcnt]
        apply decide_eq_decide.2
        omega)
      by_cases hkn : k < n
      · have h5 : k = 5 := by omega
        subst h5
        have i1 : (5 : Int) < ((n : Nat) : Int) := by omega
        have e4 : ¬ (n : Int) ≤ 4 := by omega
        clear hlt
        go_wp2
        go_ret
        exact ⟨by rw [HF.out, decide_eq_false (by omega)] <;> rfl, bid w⟩
      · have hkn' : k = n := by omega
        subst hkn'
        clear hlt
        by_cases e4 : (k : Int) ≤ 4
        · go_wp2
          go_ret
          exact ⟨by rw [HF.out, decide_eq_true (by omega)] <;> rfl, bid w⟩
        · go_wp2
          go_ret
          exact ⟨by rw [HF.out, decide_eq_false (by omega)] <;> rfl, bid w⟩

end Go.Proofs.YtbobjhadckeieaaDoor

namespace Go.Proofs.YtbobjhadckeieaaDoor
open Go.RowKit
set_option linter.unusedVariables false

def mrun (os : List Int) : Nat → Nat → MSt → Option MSt
  | 0, _, s => some s
  | f + 1, k, s => (mstep os k s).bind fun s' => mrun os f (k + 1) s'
theorem mrun_mgo {os : List Int} : ∀ (f k : Nat) (s s' : MSt), mrun os f k s = some s' → mgo os f k s = mend s' := by
  intro f
  induction f with
  | zero => intro k s s' h; simp only [mrun, Option.some.injEq] at h; subst h; rfl
  | succ f ih =>
    intro k s s' h
    unfold mrun at h
    obtain ⟨s1, h1, h2⟩ := Option.bind_eq_some_iff.1 h
    unfold mgo
    rw [h1]
    exact ih _ _ _ h2
theorem mrun_add {os : List Int} : ∀ (a b k : Nat) (s s' s'' : MSt), mrun os a k s = some s' → mrun os b (k + a) s' = some s'' → mrun os (a + b) k s = some s'' := by
  intro a
  induction a with
  | zero =>
    intro b k s s' s'' h1 h2
    simp only [mrun, Option.some.injEq] at h1
    subst h1
    rw [Nat.zero_add]
    exact h2
  | succ a ih =>
    intro b k s s' s'' h1 h2
    unfold mrun at h1
    obtain ⟨s1, h3, h4⟩ := Option.bind_eq_some_iff.1 h1
    rw [show a + 1 + b = (a + b) + 1 by omega]
    unfold mrun
    rw [h3]
    exact ih b (k + 1) s1 s' s'' h4 (by rw [show k + 1 + a = k + (a + 1) by omega]; exact h2)

def sh (off : Nat) (m : Int) : Int := if m < 0 then m else m + off
theorem sh_neg (off : Nat) : sh off (-1) = -1 := by unfold sh; rw [if_pos (by decide)]
theorem sh_nat (off k : Nat) : sh off (k : Int) = ((off + k : Nat) : Int) := by unfold sh; rw [if_neg (by omega)]; omega
theorem sh_zero (m : Int) : sh 0 m = m := by unfold sh; split <;> simp
theorem sh_gt (off i : Nat) (m : Int) : decide (((off + i : Nat) : Int) < sh off m) = decide ((i : Int) < m) := by
  unfold sh
  split <;> congr 1 <;> apply propext <;> constructor <;> intro h <;> omega
theorem getD_set (l : List Int) (i j : Nat) (v d : Int) : (l.set i v).getD j d = if i = j ∧ i < l.length then v else l.getD j d := by
  simp only [List.getD_eq_getElem?_getD, List.getElem?_set]
  by_cases h : i = j
  · subst h
    by_cases h2 : i < l.length
    · simp [h2]
    · simp [h2]
  · simp [h]
theorem set_at {G L : List Int} {off n i j : Nat} {v v' : Int} (ll : L.length = n) (gl : off + n ≤ G.length) (hi : i < n) (hv : v' = sh off v) (hj : j = i ∨ G.getD (off + j) 0 = sh off (L.getD j 0)) : (G.set (off + i) v').getD (off + j) 0 = sh off ((L.set i v).getD j 0) := by
  rw [getD_set, getD_set]
  by_cases h : i = j
  · subst h
    rw [if_pos ⟨rfl, by omega⟩, if_pos ⟨rfl, by omega⟩]
    exact hv
  · rw [if_neg (fun e => h (by omega)), if_neg (fun e => h e.1)]
    rcases hj with e | e
    · exact absurd e.symm h
    · exact e
theorem set_old {G : List Int} {off i j : Nat} {v : Int} (hj : j < off) : (G.set (off + i) v).getD j 0 = G.getD j 0 := by
  rw [getD_set, if_neg (fun e => by omega)]

structure Sim (off n : Nat) (M0 : List Int) (k : Nat) (L G : MSt) : Prop where
  ll : L.ms.length = n
  gl : off + n ≤ G.ms.length
  op : G.op = L.op.map (fun p => (p.1 + off, p.2 + off))
  at_ : ∀ j, j < k → G.ms.getD (off + j) 0 = sh off (L.ms.getD j 0)
  old : ∀ j, j < off → G.ms.getD j 0 = M0.getD j 0
  lt : ∀ p ∈ L.op, p.1 < k ∧ p.2 < k

theorem Sim.step {off n : Nat} {M0 : List Int} {k : Nat} {L G L' : MSt} {os gs : List Int} (h : Sim off n M0 k L G) (hk : k < n) (ho : ∀ j, j < n → gs.getD (off + j) 0 = os.getD j 0) (hs : mstep os k L = some L') :
    ∃ G', mstep gs (off + k) G = some G' ∧ Sim off n M0 (k + 1) L' G' ∧ G'.ms.length = G.ms.length := by
  obtain ⟨ll, gl, hop, hat, hold, hlt⟩ := h
  have e := ho k hk
  have hlt' : ∀ p ∈ L.op, p.1 < k + 1 ∧ p.2 < k + 1 := fun p hp => ⟨Nat.lt_succ_of_lt (hlt p hp).1, Nat.lt_succ_of_lt (hlt p hp).2⟩
  have hatk : ∀ j, j < k + 1 → (G.ms.set (off + k) (-1)).getD (off + j) 0 = sh off ((L.ms.set k (-1)).getD j 0) := fun j hj =>
    set_at ll gl hk (sh_neg off).symm (by
      rcases Nat.lt_or_ge j k with h | h
      · exact .inr (hat j h)
      · exact .inl (by omega))
  have holdk : ∀ j, j < off → (G.ms.set (off + k) (-1)).getD j 0 = M0.getD j 0 := fun j hj => (set_old hj).trans (hold j hj)
  unfold mstep at hs ⊢
  rw [e]
  split at hs
  · rename_i hin
    cases hs
    rw [if_pos hin]
    refine ⟨_, rfl, ⟨by simpa using ll, by simpa using gl, ?_, hatk, holdk, ?_⟩, by simp⟩
    · show G.op ++ [(off + k, off + k)] = _
      rw [hop, List.map_append, Nat.add_comm off k]
      rfl
    · intro p hp
      rcases List.mem_append.1 hp with hp | hp
      · exact hlt' p hp
      · simp at hp
        subst hp
        simp
  · split at hs
    · rename_i hin hout
      rw [if_neg hin, if_pos hout]
      split at hs
      · cases hs
      · rename_i fr la hl
        have hgl : G.op.getLast? = some (fr + off, la + off) := by rw [hop, List.getLast?_map, hl]; rfl
        rw [hgl]
        dsimp only
        have hm := List.mem_of_getLast? hl
        have hla := (hlt _ hm).2
        have hfr := (hlt _ hm).1
        dsimp only at hla hfr
        have e2 : gs.getD (la + off) 0 = os.getD la 0 := by rw [Nat.add_comm]; exact ho la (by omega)
        rw [e2]
        split at hs
        · rename_i hf
          cases hs
          rw [if_pos hf]
          refine ⟨_, rfl, ⟨by rw [mjoin_len]; simpa using ll, by rw [mjoin_len]; simpa using gl, ?_, ?_, ?_, ?_⟩, by rw [mjoin_len]; simp⟩
          · dsimp only
            split
            · rw [hop, List.map_append, List.map_dropLast, Nat.add_comm off k]
              rfl
            · rw [hop, List.map_dropLast]
          · intro j hj
            dsimp only [mjoin]
            rw [Nat.add_comm la off]
            refine set_at (n := n) (by split <;> simpa using ll) (by split <;> simpa using gl) (by omega) (sh_nat off k).symm (.inr ?_)
            split
            · exact set_at (n := n) (by simpa using ll) (by simpa using gl) hk (by rw [sh_nat]) (.inr (hatk j hj))
            · exact hatk j hj
          · intro j hj
            dsimp only [mjoin]
            rw [Nat.add_comm la off, set_old hj]
            split
            · rw [set_old hj]; exact holdk j hj
            · exact holdk j hj
          · dsimp only
            split
            · intro p hp
              rcases List.mem_append.1 hp with hp | hp
              · exact hlt' p (List.dropLast_subset _ hp)
              · simp at hp
                subst hp
                exact ⟨by dsimp only; omega, Nat.lt_succ_self _⟩
            · exact fun p hp => hlt' p (List.dropLast_subset _ hp)
        · cases hs
    · rename_i hin hout
      cases hs
      rw [if_neg hin, if_neg hout]
      exact ⟨_, rfl, ⟨by simpa using ll, by simpa using gl, hop, hatk, holdk, hlt'⟩, by simp⟩

theorem Sim.run {off n : Nat} {M0 : List Int} {os gs : List Int} (ho : ∀ j, j < n → gs.getD (off + j) 0 = os.getD j 0) : ∀ (f k : Nat) (L G L' : MSt), k + f ≤ n → Sim off n M0 k L G → mrun os f k L = some L' → ∃ G', mrun gs f (off + k) G = some G' ∧ Sim off n M0 (k + f) L' G' ∧ G'.ms.length = G.ms.length := by
  intro f
  induction f with
  | zero =>
    intro k L G L' hk h hr
    simp only [mrun, Option.some.injEq] at hr
    subst hr
    exact ⟨G, rfl, h, rfl⟩
  | succ f ih =>
    intro k L G L' hk h hr
    unfold mrun at hr
    obtain ⟨L1, h1, h2⟩ := Option.bind_eq_some_iff.1 hr
    obtain ⟨G1, h3, h4, h5⟩ := h.step (by omega) ho h1
    obtain ⟨G2, h6, h7, h8⟩ := ih (k + 1) L1 G1 L' (by omega) h4 h2
    refine ⟨G2, ?_, by rw [show k + (f + 1) = k + 1 + f by omega]; exact h7, h8.trans h5⟩
    unfold mrun
    rw [h3]
    exact h6

def st0 (n : Nat) : MSt := ⟨List.replicate n 0, []⟩
/-- No fault within, whole by itself. -/
def Good (c : Cfg) (s : CV) (p : List Ins) : Prop := ∃ ms : List Int, mrun (opsOf p) p.length 0 (st0 p.length) = some ⟨ms, []⟩ ∧ ms.length = p.length ∧ (∀ j, j < p.length → ms.getD j 0 < (p.length : Int)) ∧
  ∀ j, j < p.length → mayB (p.getD j ins0) = true ∧ misF c s (p.getD j ins0) (aroundF p ms j) = 0

theorem arGo_app (ms : List Int) (q : Nat) : ∀ (l r : List Ins) (k : Nat) (s : Std), arGo ms q (l ++ r) k s = arGo ms q r (k + l.length) (arGo ms q l k s) := by
  intro l
  induction l with
  | nil => intro r k s; rfl
  | cons x l ih =>
    intro r k s
    rw [List.cons_append, arGo_cons, ih, arGo_cons, List.length_cons, show k + (l.length + 1) = k + 1 + l.length by omega]
theorem arGo_congr (ms ms' : List Int) (q q' : Nat) : ∀ (l : List Ins) (k k' : Nat) (s : Std), (∀ i, i < l.length → decide ((q : Int) < ms.getD (k + i) 0) = decide ((q' : Int) < ms'.getD (k' + i) 0)) → arGo ms q l k s = arGo ms' q' l k' s := by
  intro l
  induction l with
  | nil => intro k k' s _; rfl
  | cons x l ih =>
    intro k k' s h
    rw [arGo_cons, arGo_cons]
    have h0 := h 0 (by simp)
    rw [Nat.add_zero, Nat.add_zero] at h0
    rw [h0]
    exact ih (k + 1) (k' + 1) _ fun i hi => by
      have := h (i + 1) (by simpa using hi)
      rw [show k + 1 + i = k + (i + 1) by omega, show k' + 1 + i = k' + (i + 1) by omega]
      exact this
theorem arGo_out (ms : List Int) (q : Nat) : ∀ (l : List Ins) (k : Nat), (∀ i, i < l.length → ms.getD (k + i) 0 ≤ (q : Int)) → arGo ms q l k ⟨[], 0, false⟩ = ⟨[], 0, false⟩ := by
  intro l
  induction l with
  | nil => intro k _; rfl
  | cons x l ih =>
    intro k h
    have h0 := h 0 (by simp)
    rw [Nat.add_zero] at h0
    rw [arGo_cons, decide_eq_false (by omega)]
    have e : arStep false x ⟨[], 0, false⟩ = ⟨[], 0, false⟩ := rfl
    rw [e]
    exact ih (k + 1) fun i hi => by
      have := h (i + 1) (by simpa using hi)
      rw [show k + 1 + i = k + (i + 1) by omega]
      exact this

theorem Good.append {c : Cfg} {s : CV} {p q : List Ins} (hp : Good c s p) (hq : Good c s q) : Good c s (p ++ q) := by
  obtain ⟨mp, p1, p2, p3, p4⟩ := hp
  obtain ⟨mq, q1, q2, q3, q4⟩ := hq
  have hol : ∀ j, j < p.length → (opsOf (p ++ q)).getD (0 + j) 0 = (opsOf p).getD j 0 := fun j hj => by
    rw [Nat.zero_add]
    simp only [opsOf, List.map_append, List.getD_eq_getElem?_getD]
    rw [List.getElem?_append_left (by simpa using hj)]
  have hor : ∀ j, j < q.length → (opsOf (p ++ q)).getD (p.length + j) 0 = (opsOf q).getD j 0 := fun j hj => by
    simp only [opsOf, List.map_append, List.getD_eq_getElem?_getD]
    rw [List.getElem?_append_right (by simp)]
    simp
  have s0 : Sim 0 p.length [] 0 (st0 p.length) (st0 (p.length + q.length)) := ⟨by simp [st0], by simp [st0], rfl, fun j h => by omega, fun j h => by omega, fun x h => by simp [st0] at h⟩
  obtain ⟨G1, g1, g2, g3⟩ := s0.run hol p.length 0 _ _ _ (by omega) p1
  have gl1 : G1.ms.length = p.length + q.length := by rw [g3]; simp [st0]
  have s1 : Sim p.length q.length G1.ms 0 (st0 q.length) G1 := ⟨by simp [st0], by omega, g2.op, fun j h => by omega, fun j h => rfl, fun x h => by simp [st0] at h⟩
  obtain ⟨G2, h1, h2, h3⟩ := s1.run hor q.length 0 _ _ _ (by omega) q1
  have hop : G2.op = [] := h2.op
  obtain ⟨M, o⟩ := G2
  dsimp only at hop
  subst hop
  have hlow : ∀ j, j < p.length → M.getD j 0 = mp.getD j 0 := fun j hj => by
    have e1 := h2.old j hj
    have e2 := g2.at_ j (by omega)
    rw [Nat.zero_add, sh_zero] at e2
    exact e1.trans e2
  have hhi : ∀ j, j < q.length → M.getD (p.length + j) 0 = sh p.length (mq.getD j 0) := fun j hj => h2.at_ j (by omega)
  rw [Nat.zero_add] at g1 
  refine ⟨M, ?_, ?_, fun j hj => ?_, fun j hj => ?_⟩
  · rw [List.length_append]
    refine mrun_add p.length q.length 0 _ G1 _ g1 ?_
    rw [Nat.zero_add]
    exact h1
  · dsimp only at h3
    rw [h3, gl1, List.length_append]
  · rw [List.length_append] at hj ⊢
    rcases Nat.lt_or_ge j p.length with h | h
    · rw [hlow j h]
      have := p3 j h
      omega
    · obtain ⟨i, rfl⟩ : ∃ i, j = p.length + i := ⟨j - p.length, by omega⟩
      rw [hhi i (by omega)]
      have := q3 i (by omega)
      unfold sh
      split <;> omega
  · rw [List.length_append] at hj
    rcases Nat.lt_or_ge j p.length with h | h
    · have e1 : (p ++ q).getD j ins0 = p.getD j ins0 := by
        simp only [List.getD_eq_getElem?_getD]
        rw [List.getElem?_append_left h]
      have e2 : aroundF (p ++ q) M j = aroundF p mp j := by
        unfold aroundF
        rw [List.take_append_of_le_length (by omega)]
        refine arGo_congr _ _ _ _ _ _ _ _ fun i hi => ?_
        rw [List.length_take] at hi
        rw [Nat.zero_add, hlow i (by omega)]
      rw [e1, e2]
      exact p4 j h
    · obtain ⟨i, rfl⟩ : ∃ i, j = p.length + i := ⟨j - p.length, by omega⟩
      have e1 : (p ++ q).getD (p.length + i) ins0 = q.getD i ins0 := by
        simp only [List.getD_eq_getElem?_getD]
        rw [List.getElem?_append_right (by omega)]
        simp
      have e2 : aroundF (p ++ q) M (p.length + i) = aroundF q mq i := by
        unfold aroundF
        rw [List.take_length_add_append, arGo_app, arGo_out _ _ _ _ (fun k hk => by
          rw [Nat.zero_add, hlow k hk]
          have := p3 k hk
          omega)]
        refine arGo_congr _ _ _ _ _ _ _ _ fun k hk => ?_
        rw [List.length_take] at hk
        rw [Nat.zero_add, Nat.zero_add, hhi k (by omega)]
        exact sh_gt _ _ _
      rw [e1, e2]
      exact q4 i (by omega)

theorem Good.wrong {c : Cfg} {s : CV} {p : List Ins} (h : Good c s p) (hl : p.length ≤ 48) (t : Int) : wrongF c s p t = none := by
  obtain ⟨ms, h1, h2, h3, h4⟩ := h
  have hm : matesOf (opsOf p) = (ms, -1) := by
    unfold matesOf
    have e : (opsOf p).length = p.length := by simp [opsOf]
    rw [e]
    exact (mrun_mgo _ _ _ _ h1).trans rfl
  rw [wrongF_4 (by omega) (firstF_none _ _ _ _ fun j _ hj => by
    unfold instrF
    rw [if_pos (h4 j (by omega)).1]) (by rw [hm]; show ¬ (0 : Int) ≤ -1; decide)]
  rw [hm]
  refine firstF_none _ _ _ _ fun j _ hj => ?_
  rw [(h4 j (by omega)).2]
  rfl

def goodB (c : Cfg) (s : CV) (p : List Ins) : Bool :=
  match mrun (opsOf p) p.length 0 (st0 p.length) with
  | some ⟨ms, []⟩ => (ms.length == p.length) && (List.range p.length).all fun j => decide (ms.getD j 0 < (p.length : Int)) && (mayB (p.getD j ins0) && (misF c s (p.getD j ins0) (aroundF p ms j) == 0))
  | _ => false
theorem Good.of {c : Cfg} {s : CV} {p : List Ins} (h : goodB c s p = true) : Good c s p := by
  unfold goodB at h
  split at h
  · rename_i ms hm
    simp only [Bool.and_eq_true, List.all_eq_true, decide_eq_true_eq, beq_iff_eq, List.mem_range] at h
    exact ⟨ms, hm, h.1, fun j hj => (h.2 j hj).1, fun j hj => (h.2 j hj).2⟩
  · cases h

def cK (o : Nat) : Cfg := ⟨0, 0, 0, 0, 0, 0, 0, 0, [⟨1 + (o : Int), 0, 3⟩, ⟨3 - (1 + (o : Int)), 3, 3⟩, ⟨3, 6, 3⟩], [0, 1, 2], []⟩
def cvK : CV := ⟨none, 9, 0, none, 3, 0, none, 3, 0, none, 1, 0⟩
theorem misF_congr {c c' : Cfg} {s s' : CV} (h1 : c.locks = c'.locks) (h2 : c.conds = c'.conds) (h3 : s.nl = s'.nl) (h4 : s.nc = s'.nc) (x : Ins) (d : Std) : misF c s x d = misF c' s' x d := by
  unfold misF enterF callF
  rw [h1, h2, h3, h4]
theorem Good.congr {c c' : Cfg} {s s' : CV} (h1 : c.locks = c'.locks) (h2 : c.conds = c'.conds) (h3 : s.nl = s'.nl) (h4 : s.nc = s'.nc) {p : List Ins} (h : Good c' s' p) : Good c s p := by
  obtain ⟨ms, a1, a2, a3, a4⟩ := h
  exact ⟨ms, a1, a2, a3, fun j hj => ⟨(a4 j hj).1, by rw [misF_congr h1 h2 h3 h4]; exact (a4 j hj).2⟩⟩
theorem fin_of {v : Int} {n : Nat} (h : 0 ≤ v ∧ v < n) : ∃ a : Fin n, v = ((a.1 : Nat) : Int) := ⟨⟨v.toNat, by omega⟩, by simp; omega⟩

theorem g0 : ∀ o : Fin 2, ∀ a : Fin 4, goodB (cK o.1) cvK [⟨12, ((a.1 : Nat) : Int), 0, 0, 0⟩] = true := by decide +kernel
theorem g1 : ∀ o : Fin 2, ∀ a : Fin 9, goodB (cK o.1) cvK [⟨1, 2, 0, 0, ((a.1 : Nat) : Int) - 4⟩] = true := by decide +kernel
theorem g2 : ∀ o : Fin 2, ∀ l d : Fin 3, goodB (cK o.1) cvK (pL2' 0 ((l.1 : Nat) : Int) (3 * ((l.1 : Nat) : Int) + ((d.1 : Nat) : Int)) 0) = true := by decide +kernel
theorem g3 : ∀ o : Fin 2, ∀ l d e : Fin 3, goodB (cK o.1) cvK (pL3' 0 ((l.1 : Nat) : Int) (3 * ((l.1 : Nat) : Int) + ((d.1 : Nat) : Int)) (3 * ((l.1 : Nat) : Int) + ((e.1 : Nat) : Int))) = true := by decide +kernel
def pL4k (a b x y z : Int) : List Ins := secL a ([(ldI 2 x)] ++ secL b [(ldI 3 y), (upI 2), (stI 2 y)] ++ [(upI 3), (stI 3 z)])
theorem g4 : ∀ o : Fin 2, ∀ a b x y z : Fin 3, a.1 < b.1 → goodB (cK o.1) cvK (pL4k ((a.1 : Nat) : Int) ((b.1 : Nat) : Int) (3 * ((a.1 : Nat) : Int) + ((x.1 : Nat) : Int)) (3 * ((b.1 : Nat) : Int) + ((y.1 : Nat) : Int)) (3 * ((a.1 : Nat) : Int) + ((z.1 : Nat) : Int))) = true := by decide +kernel
def pL5k (x y : Int) : List Ins := [(⟨13, 2, 1, 0, 0⟩ : Ins), (ldI 2 x), (ldI 3 y), (⟨14, 0, 0, 0, 0⟩ : Ins), (⟨12, 2, 0, 0, 0⟩ : Ins), (⟨12, 3, 0, 0, 0⟩ : Ins)]
theorem g5 : ∀ o : Fin 2, ∀ x y : Fin 3, goodB (cK o.1) cvK (pL5k (3 * 2 + ((x.1 : Nat) : Int)) (3 * 2 + ((y.1 : Nat) : Int))) = true := by decide +kernel
theorem g6 : ∀ o : Fin 2, ∀ l d : Fin 3, goodB (cK o.1) cvK (pL6' 0 ((l.1 : Nat) : Int) (3 * ((l.1 : Nat) : Int) + ((d.1 : Nat) : Int)) 0) = true := by decide +kernel
theorem g7 : ∀ o : Fin 2, ∀ l d : Fin 3, goodB (cK o.1) cvK (pL7' 0 ((l.1 : Nat) : Int) (3 * ((l.1 : Nat) : Int) + ((d.1 : Nat) : Int)) 0) = true := by decide +kernel
theorem g8 : ∀ o : Fin 2, ∀ l d : Fin 3, goodB (cK o.1) cvK (pL8' 0 ((l.1 : Nat) : Int) (3 * ((l.1 : Nat) : Int) + ((d.1 : Nat) : Int)) 0) = true := by decide +kernel
theorem g9 : ∀ o : Fin 2, ∀ l d : Fin 3, goodB (cK o.1) cvK (pL9' 0 ((l.1 : Nat) : Int) (3 * ((l.1 : Nat) : Int) + ((d.1 : Nat) : Int)) 0) = true := by decide +kernel
theorem g10 : ∀ o : Fin 2, ∀ l d e : Fin 3, goodB (cK o.1) cvK (pL10' 0 ((l.1 : Nat) : Int) (3 * ((l.1 : Nat) : Int) + ((d.1 : Nat) : Int)) (3 * ((l.1 : Nat) : Int) + ((e.1 : Nat) : Int))) = true := by decide +kernel
def pL11k (l d x : Int) : List Ins := [(⟨1, 3, 0, 0, (1 + x)⟩ : Ins), (⟨21, 3, 0, 0, 0⟩ : Ins)] ++ secL l [(ldI 2 d), (upI 2), (stI 2 d)] ++ [(⟨3, 3, 3, 1, 0⟩ : Ins), (⟨22, 0, 0, 0, 0⟩ : Ins)]
theorem g11 : ∀ o : Fin 2, ∀ l d x : Fin 3, goodB (cK o.1) cvK (pL11k ((l.1 : Nat) : Int) (3 * ((l.1 : Nat) : Int) + ((d.1 : Nat) : Int)) ((x.1 : Nat) : Int)) = true := by decide +kernel
def pL12k (l d x : Int) : List Ins := secL l [(⟨1, 3, 0, 0, (1 + x)⟩ : Ins), (⟨21, 3, 0, 0, 0⟩ : Ins), (ldI 2 d), (upI 2), (stI 2 d), (⟨3, 3, 3, 1, 0⟩ : Ins), (⟨22, 0, 0, 0, 0⟩ : Ins)]
theorem g12 : ∀ o : Fin 2, ∀ l d x : Fin 3, goodB (cK o.1) cvK (pL12k ((l.1 : Nat) : Int) (3 * ((l.1 : Nat) : Int) + ((d.1 : Nat) : Int)) ((x.1 : Nat) : Int)) = true := by decide +kernel

theorem wordF_fin (l q : Int) : ∃ d : Fin 3, wordF l q = 3 * l + ((d.1 : Nat) : Int) := by
  obtain ⟨d, hd⟩ := fin_of (v := pickF q 3) (n := 3) (pickF_in (by decide))
  exact ⟨d, by unfold wordF; rw [hd]⟩
theorem piece_good (o : Fin 2) (x : Int) : Good (cK o.1) cvK (pieceF x) := by
  refine Good.of ?_
  unfold pieceF
  obtain ⟨q0, q1⟩ := qF_in x
  generalize qF x = q at q0 q1 ⊢
  obtain ⟨l, hl⟩ := fin_of (v := pickF q 3) (n := 3) (pickF_in (by decide))
  rw [hl]
  obtain ⟨d, hd⟩ := wordF_fin ((l.1 : Nat) : Int) (q / 3)
  obtain ⟨e, he⟩ := wordF_fin ((l.1 : Nat) : Int) (q / 9)
  rw [hd, he]
  obtain ⟨t, ht⟩ := fin_of (v := pickF (q / 9) 3) (n := 3) (pickF_in (by decide))
  have hr := pickF_in (x := x) (n := 13) (by decide)
  generalize pickF x 13 = r at hr
  have : r = 0 ∨ r = 1 ∨ r = 2 ∨ r = 3 ∨ r = 4 ∨ r = 5 ∨ r = 6 ∨ r = 7 ∨ r = 8 ∨ r = 9 ∨ r = 10 ∨ r = 11 ∨ r = 12 := by omega
  rcases this with rfl | rfl | rfl | rfl | rfl | rfl | rfl | rfl | rfl | rfl | rfl | rfl | rfl
  · show goodB (cK o.1) cvK [⟨12, (pickF q 4), 0, 0, 0⟩] = true
    obtain ⟨a, ha⟩ := fin_of (v := pickF q 4) (n := 4) (pickF_in (by decide))
    rw [ha]
    exact g0 o a
  · show goodB (cK o.1) cvK [⟨1, 2, 0, 0, (pickF q 9 - 4)⟩] = true
    obtain ⟨a, ha⟩ := fin_of (v := pickF q 9) (n := 9) (pickF_in (by decide))
    rw [ha]
    exact g1 o a
  · exact g2 o l d
  · exact g3 o l d e
  · show goodB (cK o.1) cvK (pL4 q (pickF q 2) (pickF q 2 + 1 + pickF (q / 2) (2 - pickF q 2))) = true
    have ha := pickF_in (x := q) (n := 2) (by decide)
    have hb := pickF_in (x := q / 2) (n := 2 - pickF q 2) (by omega)
    generalize pickF q 2 = a at ha hb
    generalize pickF (q / 2) (2 - a) = b at hb
    obtain ⟨a', ea⟩ := fin_of (v := a) (n := 3) (by omega)
    obtain ⟨b', eb⟩ := fin_of (v := a + 1 + b) (n := 3) (by omega)
    rw [eb]
    have hlt : a'.1 < b'.1 := by omega
    subst ea
    obtain ⟨x1, h1⟩ := wordF_fin ((a'.1 : Nat) : Int) (q / 3)
    obtain ⟨y1, h2⟩ := wordF_fin ((b'.1 : Nat) : Int) (q / 9)
    obtain ⟨z1, h3⟩ := wordF_fin ((a'.1 : Nat) : Int) (q / 27)
    unfold pL4
    rw [h1, h2, h3]
    exact g4 o a' b' x1 y1 z1 hlt
  · show goodB (cK o.1) cvK (pL5k (wordF 2 q) (wordF 2 (q / 3))) = true
    obtain ⟨x1, h1⟩ := wordF_fin 2 q
    obtain ⟨y1, h2⟩ := wordF_fin 2 (q / 3)
    rw [h1, h2]
    exact g5 o x1 y1
  · exact g6 o l d
  · exact g7 o l d
  · exact g8 o l d
  · exact g9 o l d
  · exact g10 o l d e
  · show goodB (cK o.1) cvK (pL11k ((l.1 : Nat) : Int) (3 * ((l.1 : Nat) : Int) + ((d.1 : Nat) : Int)) (pickF (q / 9) 3)) = true
    rw [ht]
    exact g11 o l d t
  · show goodB (cK o.1) cvK (pL12k ((l.1 : Nat) : Int) (3 * ((l.1 : Nat) : Int) + ((d.1 : Nat) : Int)) (pickF (q / 9) 3)) = true
    rw [ht]
    exact g12 o l d t

theorem first_good : ∀ o : Fin 2, goodB (cK o.1) cvK [⟨1, 1, 0, 0, 1⟩] = true := by decide +kernel
theorem nil_good (c : Cfg) (s : CV) : Good c s [] := ⟨[], rfl, rfl, fun j h => by simp at h, fun j h => by simp at h⟩
theorem progGo_good (o : Fin 2) : ∀ (zs : List Int) (p : List Ins), p.length ≤ 43 → Good (cK o.1) cvK p → (progGo zs p).length ≤ 43 ∧ Good (cK o.1) cvK (progGo zs p) := by
  intro zs
  induction zs with
  | nil => intro p hl h; exact ⟨hl, h⟩
  | cons x r ih =>
    intro p hl h
    by_cases h34 : p.length < 34
    · rw [progGo_yes h34]
      have := pieceF_len x
      exact ih _ (by rw [List.length_append]; omega) (h.append (piece_good o x))
    · rw [progGo_no h34]
      exact ⟨hl, h⟩
theorem prog6_good (o : Fin 2) (zs : List Int) : (prog6F zs).length ≤ 43 ∧ Good (cK o.1) cvK (prog6F zs) := progGo_good o zs _ (by simp) (Good.of (first_good o))

theorem locksF_eq (k : K8) : ∃ o : Fin 2, locksF k = (cK o.1).locks := by
  obtain ⟨o, ho⟩ := fin_of (v := pickF (wrap64 (k.k0.tdiv 2)) 2) (n := 2) (pickF_in (by decide))
  exact ⟨o, by unfold locksF oneF; rw [ho]; rfl⟩
theorem progs6_good (o : Fin 2) (zss : List (List Int)) : ∀ p ∈ progs6 zss, p.length ≤ 43 ∧ Good (cK o.1) cvK p := by
  intro p hp
  unfold progs6 at hp
  split at hp
  · simp at hp
    subst hp
    exact ⟨by simp, nil_good _ _⟩
  · obtain ⟨zs, _, rfl⟩ := List.mem_map.1 hp
    exact prog6_good o zs
theorem progs6_len (zss : List (List Int)) : 1 ≤ (progs6 zss).length ∧ (progs6 zss).length ≤ 3 := by
  unfold progs6
  split
  · simp
  · rw [List.length_map, List.length_take]
    omega
theorem built_prog (k : K8) (zss : List (List Int)) (s : CV) (h : s.nl = 3) (h' : s.nc = 3) (t : Nat) (ht : t < (progs6 zss).length) : progF (build6 k zss) s t = none := by
  obtain ⟨o, ho⟩ := locksF_eq k
  have hp : (build6 k zss).progs.getD t [] ∈ progs6 zss := by
    show (progs6 zss).getD t [] ∈ _
    rw [List.getD_eq_getElem?_getD, List.getElem?_eq_getElem ht]
    exact List.getElem_mem ht
  obtain ⟨hl, hg⟩ := progs6_good o zss _ hp
  unfold progF
  rw [Good.wrong (Good.congr (c := build6 k zss) (s := s) ho rfl h h' hg) (by omega)]
  rfl
theorem lockF_congr {c c' : Cfg} {s s' : CV} (h1 : c.locks = c'.locks) (h3 : s.ni = s'.ni) (i : Nat) : lockF c s i = lockF c' s' i := by
  unfold lockF lockB fineB
  rw [h1, h3]
theorem condF_congr {c c' : Cfg} {s s' : CV} (h1 : c.locks = c'.locks) (h2 : c.conds = c'.conds) (h3 : s.nl = s'.nl) (i : Nat) : condF c s i = condF c' s' i := by
  unfold condF
  rw [h1, h2, h3]
theorem lk_good : ∀ o : Fin 2, ∀ i : Fin 3, lockF (cK o.1) cvK i.1 = none := by decide +kernel
theorem cd_good : ∀ o : Fin 2, ∀ i : Fin 3, condF (cK o.1) cvK i.1 = none := by decide +kernel
theorem mostF_in (k : K8) : 0 ≤ mostF k ∧ mostF k ≤ 1073741824 := by
  unfold mostF
  have := pickF_in (x := wrap64 (k.k7.tdiv 4)) (n := 12) (by decide)
  split <;> omega
theorem wrsF_in (k : K8) : 1 ≤ wrsF k ∧ wrsF k ≤ 32 := by
  unfold wrsF
  have := pickF_in (x := k.k4) (n := 12) (by decide)
  split <;> omega
theorem built_amounts (k : K8) (zss : List (List Int)) (s : CV) (hi : s.ni = 9) (h : s.nl = 3) (h' : s.nc = 3) (hp : s.np = (progs6 zss).length) : amountsB (build6 k zss) s = true := by
  obtain ⟨l1, l3⟩ := progs6_len zss
  have g0 := pickF_in (x := k.k0) (n := 2) (by decide)
  have g1 := pickF_in (x := k.k1) (n := 2) (by decide)
  have g2 := pickF_in (x := k.k2) (n := 7) (by decide)
  have g3 := pickF_in (x := k.k3) (n := 4) (by decide)
  have g5 := pickF_in (x := k.k5) (n := 4) (by decide)
  have g6 := pickF_in (x := k.k6) (n := 60) (by decide)
  obtain ⟨m0, m1⟩ := mostF_in k
  obtain ⟨w0, w1⟩ := wrsF_in k
  have hpm : pmayB ((build6 k zss).pm s) = true := by
    refine pmayB_yes ?_
    show PM.Ok ⟨1 + pickF k.k2 7, (s.nl : Int), (s.np : Int), (s.nc : Int), (s.ni : Int)⟩
    rw [hi, h, h', hp]
    constructor <;> dsimp only <;> omega
  unfold amountsB
  rw [hpm]
  show (true && ((1 + pickF k.k0 2) == 1 || (1 + pickF k.k0 2) == 2) && ((1 + pickF k.k1 2) == 1 || (1 + pickF k.k1 2) == 2) && inB (32 - pickF k.k3 4 * 9) 1 32 && inB (wrsF k) 1 32 && inB (pickF k.k5 4) 0 8 && inB (20 + pickF k.k6 60) 0 400 && decide (0 ≤ mostF k) && decide (mostF k ≤ 1099511627776)) = true
  simp only [inB, Bool.true_and, Bool.and_eq_true, Bool.or_eq_true, beq_iff_eq, decide_eq_true_eq]
  omega
theorem built_config (k : K8) (zss : List (List Int)) (s : CV) (hi : s.ni = 9) (h : s.nl = 3) (h' : s.nc = 3) (hp : s.np = (progs6 zss).length) : configF (build6 k zss) s = none := by
  obtain ⟨o, ho⟩ := locksF_eq k
  have hl : (build6 k zss).locks = (cK o.1).locks := ho
  have hA := amounts_yes (built_amounts k zss s hi h h' hp)
  have hL : firstF s.nl 0 (-1) (lockF (build6 k zss) s) = none := firstF_none _ _ _ _ fun j _ hj => by
    rw [lockF_congr hl (s' := cvK) hi]
    exact lk_good o ⟨j, by omega⟩
  have hC : firstF s.nc 0 (-1) (condF (build6 k zss) s) = none := firstF_none _ _ _ _ fun j _ hj => by
    rw [condF_congr hl (c' := cK o.1) (s' := cvK) rfl h]
    exact cd_good o ⟨j, by omega⟩
  have hP : firstF s.np 0 (-1) (progF (build6 k zss) s) = none := firstF_none _ _ _ _ fun j _ hj => built_prog k zss s h h' j (by omega)
  unfold configF
  rw [hA, hL, hC, hP]
  rfl

end Go.Proofs.YtbobjhadckeieaaDoor

namespace Go.Proofs.YtbobjhadckeieaaDoor
open Go.RowKit
set_option linter.unusedVariables false

theorem k8_facts {w w' : World} {k : K8} (hb : Below (w.alloc (.cells #[.int .i64 k.k0, .int .i64 k.k1, .int .i64 k.k2, .int .i64 k.k3, .int .i64 k.k4, .int .i64 k.k5, .int .i64 k.k6, .int .i64 k.k7] 22)).heap.size (w.alloc (.cells #[.int .i64 k.k0, .int .i64 k.k1, .int .i64 k.k2, .int .i64 k.k3, .int .i64 k.k4, .int .i64 k.k5, .int .i64 k.k6, .int .i64 k.k7] 22)) w') :
    w'.cell? ⟨w.heap.size, 0, none⟩ = some (.int .i64 k.k0) ∧ w'.cell? ⟨w.heap.size, 1, none⟩ = some (.int .i64 k.k1) ∧ w'.cell? ⟨w.heap.size, 2, none⟩ = some (.int .i64 k.k2) ∧ w'.cell? ⟨w.heap.size, 3, none⟩ = some (.int .i64 k.k3) ∧ w'.cell? ⟨w.heap.size, 4, none⟩ = some (.int .i64 k.k4) ∧ w'.cell? ⟨w.heap.size, 5, none⟩ = some (.int .i64 k.k5) ∧ w'.cell? ⟨w.heap.size, 6, none⟩ = some (.int .i64 k.k6) ∧ w'.cell? ⟨w.heap.size, 7, none⟩ = some (.int .i64 k.k7) := by
  have h0 := heap_alloc_new w (.cells #[.int .i64 k.k0, .int .i64 k.k1, .int .i64 k.k2, .int .i64 k.k3, .int .i64 k.k4, .int .i64 k.k5, .int .i64 k.k6, .int .i64 k.k7] 22)
  have h1 := (hb.block w.heap.size (by simp)).trans h0
  exact ⟨cell_of_blk h1 0, cell_of_blk h1 1, cell_of_blk h1 2, cell_of_blk h1 3, cell_of_blk h1 4, cell_of_blk h1 5, cell_of_blk h1 6, cell_of_blk h1 7⟩

set_option maxRecDepth 100000 in
set_option maxHeartbeats 8000000 in
theorem built_all {sb : Nat → Addr} (k : K8) (a : Option Addr) (n c : Nat) (zss : List (List Int)) (w : World) (hE : Errs sb w) (hr : RowsRaw w a n zss) (hn : n ≤ maxLen) :
    Calls Tryd.prog 3 #[k.v, .slice a n c] w fun e w' => e = .returned (.bool true) ∧ Below w.heap.size w w' := by
  have HE := hid hE
  have HB0 := hid (bnew (bid w) (.cells #[.int .i64 k.k0, .int .i64 k.k1, .int .i64 k.k2, .int .i64 k.k3, .int .i64 k.k4, .int .i64 k.k5, .int .i64 k.k6, .int .i64 k.k7] 22))
  have HFW := hid (fun (W : World) (hW : Below w.heap.size w W) => Few_any a n c 12 zss W (hr.below hW) hn (by decide))
  by_cases hf : fewB zss 12 = true
  · obtain ⟨f4, f12⟩ := fewB_yes hf
    rw [hf] at HFW
    have HBN := hid (fun (W : World) (hW : Below w.heap.size w W) => Build_any k a n c zss W ((hr.below hW).small fun zs hz => by have := f12 zs hz; omega) (by have := hr.cnt; omega))
    have HGP := hid (fun (s : CV) (h : s.nl = 3) (h' : s.nc = 3) (t : Nat) (ht : t < (progs6 zss).length) => built_prog k zss s h h' t ht)
    have HGC := hid (fun (s : CV) (hi : s.ni = 9) (h : s.nl = 3) (h' : s.nc = 3) (hp : s.np = (progs6 zss).length) => built_config k zss s hi h h' hp)
    have HLN := hid (show (build6 k zss).locks.length = 3 ∧ (build6 k zss).conds.length = 3 ∧ (build6 k zss).progs.length = (progs6 zss).length from ⟨rfl, rfl, rfl⟩)
    have HPL := hid (progs6_len zss)
    generalize build6 k zss = cc at HBN HGP HGC HLN
    generalize (progs6 zss).length = pl at HGP HGC HLN HPL
    clear hE hr hf f4 f12
    have HK8 := hid (fun (W : World) hW => k8_facts (w := w) (w' := W) (k := k) hW)
    go_enter Tryd.func3, Tryd.ntmps3
    go_upto_region 4 with (first | (go_at_call 6; go_must (refine (HFW.out _ HB0.out).mono ?_; rintro e w1 ⟨rfl, hb1⟩; obtain ⟨q0, q1, q2, q3, q4, q5, q6, q7⟩ := HK8.out _ hb1; have HB1 := hid (bthen HB0.out hb1); clear hb1)) | (go_at_call 8; go_must (refine (HBN.out _ HB1.out).mono ?_; rintro e w2 ⟨s, rfl, hbt, hni, hb2⟩; have HBU := hid hbt; have HNI := hid hni; have HB2 := hid (bthen HB1.out hb2); clear hbt hni hb2)))
    refine wp_rename (fun W => Below w.heap.size w W ∧ Built w1.heap.size cc s (initF 9) W ∧ CfgBox W w2.heap.size cc s) ⟨bnew HB2.out _, HBU.out.below (bnew (bid _) _), CfgBox.new _ _ _⟩ ?_
    rintro W3 ⟨hb3, hbu3, hbx3⟩
    generalize w2.heap.size = q at hbx3 ⊢
    obtain ⟨n1, n2, n3⟩ := hbu3.nums
    rw [HLN.out.1] at n1
    rw [HLN.out.2.1] at n2
    rw [HLN.out.2.2] at n3
    obtain ⟨ai, ni, ki, al, nl, kl, ac, nc, kc, ap, np, kp⟩ := s
    have hni := HNI.out
    dsimp only at n1 n2 n3 hni
    subst n1 n2 hni
    obtain rfl := n3
    have HP := hid (fun (t : Nat) (ht : t < np) => HGP.out ⟨ai, 9, ki, al, 3, kl, ac, 3, kc, ap, np, kp⟩ rfl rfl t ht)
    have HC := hid (HGC.out ⟨ai, 9, ki, al, 3, kl, ac, 3, kc, ap, np, kp⟩ rfl rfl rfl rfl)
    have hnp : np ≤ 3 := by have := HPL.out; omega
    have HB3 := hid hb3
    have HU3 := hid hbu3
    have HX3 := hid hbx3
    clear hb3 hbu3 hbx3 HBU HB2 HB1 HNI HGP HGC HLN HPL HBN HFW HK8
    have HPM : Hid ((cc.pm ⟨ai, 9, ki, al, 3, kl, ac, 3, kc, ap, np, kp⟩).v = .agg #[.int .i64 cc.str, .int .i64 3, .int .i64 (np : Int), .int .i64 3, .int .i64 9]) := hid rfl
    have HMA := hid (fun W => Map_any cc ⟨ai, 9, ki, al, 3, kl, ac, 3, kc, ap, np, kp⟩ W)
    rw [HPM.out] at HMA
    go_wp2_with fail
    go_loopw [6] (fun i wr => ∃ t : Nat, t ≤ np ∧ i = .int .i64 t ∧ Below W3.heap.size W3 wr) (fun i _ => np - (intOf i).toNat)
    case atStart => exact ⟨0, Nat.zero_le _, rfl, bid W3⟩
    case round =>
      obtain ⟨t, ht, rfl, hb⟩ := hrel
      have HB := hid hb
      clear hb
      obtain ⟨k0, k1, k2, k3, k4, k5, k6, k7, k8, k9, k10, k11⟩ := cfg_facts (HX3.out.below HB.out)
      have q5 := run_neq_nils
      by_cases hlt : t < np
      · have i1 : (t : Int) < ((np : Nat) : Int) := by omega
        have HPT := hid (Prog_any (sb := sb) cc ⟨ai, 9, ki, al, 3, kl, ac, 3, kc, ap, np, kp⟩ t wr (HE.out.below (bthen HB3.out HB.out)) (HU3.out.below HB.out).cfgIn hlt)
        rw [HP.out t hlt] at HPT
        go_wp2_with (go_at_call 9; (with_reducible refine HPT.out.mono ?_); (rintro e w5 ⟨v5, rfl, ht5, hb5⟩; have hv5 : v5 = .nilIface := ht5; subst hv5; have HB5 := hid (bthen HB.out hb5); clear ht5 hb5))
        go_roundw
        case rel => exact ⟨t + 1, by omega, by go_num, HB5.out⟩
        case measure => simp [intOf]; omega
      · obtain rfl : t = np := by omega
        have q6 := run_eql_nils
        go_upto_region 10 with (go_at_call 10; (with_reducible refine (HMA.out _).mono ?_); rintro e w6 ⟨rfl, hb6⟩; have HB6 := hid (bthen HB.out hb6); clear hb6)
        refine wp_rename (fun W => Below W3.heap.size W3 W ∧ W.heap[w6.heap.size]? = some (.cells #[.int .i64 cc.str, .int .i64 3, .int .i64 (t : Int), .int .i64 3, .int .i64 9] 37 (0, 0))) ⟨bnew HB6.out _, heap_alloc_new _ _⟩ ?_
        rintro W7 ⟨hb7, hm7⟩
        generalize w6.heap.size = mq at hm7 ⊢
        have HB7 := hid hb7
        have HM7 := hid hm7
        clear hb7 hm7 HB6 k0 k1 k2 k3 k4 k5 k6 k7 k8 k9 k10 k11 HPM HMA HP
        have HMF := hid (fun (W : World) (hW : Below W7.heap.size W7 W) => (show W.cell? ⟨mq, 0, none⟩ = some (.int .i64 cc.str) ∧ W.cell? ⟨mq, 1, none⟩ = some (.int .i64 3) ∧ W.cell? ⟨mq, 2, none⟩ = some (.int .i64 (t : Int)) ∧ W.cell? ⟨mq, 3, none⟩ = some (.int .i64 3) ∧ W.cell? ⟨mq, 4, none⟩ = some (.int .i64 9) from ⟨cell_of_blk ((hW.block _ (lt_of_block HM7.out)).trans HM7.out) 0, cell_of_blk ((hW.block _ (lt_of_block HM7.out)).trans HM7.out) 1, cell_of_blk ((hW.block _ (lt_of_block HM7.out)).trans HM7.out) 2, cell_of_blk ((hW.block _ (lt_of_block HM7.out)).trans HM7.out) 3, cell_of_blk ((hW.block _ (lt_of_block HM7.out)).trans HM7.out) 4⟩))
        have HCFG := hid (fun (W : World) (hW : Below W3.heap.size W3 W) => Config_any (sb := sb) cc ⟨ai, 9, ki, al, 3, kl, ac, 3, kc, ap, t, kp⟩ W (HE.out.below (bthen HB3.out hW)) (HU3.out.below hW).cfgIn)
        rw [HC.out] at HCFG
        go_wp2_with (first | (go_at_call 7; (with_reducible refine (told6_any _ (HE.out.below (bthen HB3.out HB7.out))).mono ?_); rintro e w8 ⟨rfl, hb8⟩; have HB8 := hid (bthen HB7.out hb8); have HS8 := hid hb8; obtain ⟨k0, k1, k2, k3, k4, k5, k6, k7, k8, k9, k10, k11⟩ := cfg_facts (HX3.out.below (bthen HB7.out hb8)); clear hb8) | (go_at_call 11; (with_reducible refine (HCFG.out _ HB8.out).mono ?_); (rintro e w9 ⟨v9, rfl, ht9, hb9⟩; have hv9 : v9 = .nilIface := ht9; subst hv9; have HB9 := hid (bthen HB8.out hb9); have HS9 := hid (bthen HS8.out hb9); clear k0 k1 k2 k3 k4 k5 k6 k7 k8 k9 k10 k11; obtain ⟨k0, k1, k2, k3, k4, k5, k6, k7, k8, k9, k10, k11⟩ := cfg_facts (HX3.out.below HB9.out); obtain ⟨m0, m1, m2, m3, m4⟩ := HMF.out _ HS9.out; clear ht9 hb9)))
        go_ret
        exact ⟨rfl, bthen HB3.out HB9.out⟩
  · rw [Bool.eq_false_iff.2 hf] at HFW
    have HK8 := hid (fun (W : World) hW => k8_facts (w := w) (w' := W) (k := k) hW)
    clear hE hr
    go_enter Tryd.func3, Tryd.ntmps3
    go_wp2_with (first | (go_at_call 6; go_must (refine (HFW.out _ HB0.out).mono ?_; rintro e w1 ⟨rfl, hb1⟩; have HB1 := hid (bthen HB0.out hb1); clear hb1)) | (go_at_call 7; go_must (refine (told6_any _ (HE.out.below HB1.out)).mono ?_; rintro e w4 ⟨rfl, hb4⟩; have HB4 := hid (bthen HB1.out hb4); clear hb4)))
    go_ret
    exact ⟨rfl, HB4.out⟩

end Go.Proofs.YtbobjhadckeieaaDoor
