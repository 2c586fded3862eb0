/-
  PlaceNames, its walk.
-/
import Derived.Test.YtjekhjjighbfaaaDoorUni
import Derived.Test.YtjekhjjighbfaaaDoorHash
import Derived.Maps.OwnOps
import Derived.Maps.Views
import Derived.StringKeys
namespace Go.Proofs.YtjekhjjighbfaaaDoor
open Go.RowKit Go.Maps

theorem lawS : Keyed Tryd.prog 9 := string_keyed Tryd.underlying9
theorem zeroI (w : World) : (zeroValue 3).run Tryd.prog w = .ok (.int .i64 0) w := by kernel_rfl

/-- What the map of names tells behind n places: of no other name anything. -/
def Named (m : PM) (n : Nat) (D : DataW Unit) : Prop := ∀ l : List UInt8, (∀ j : Nat, j < n → m.name j ≠ l) → D.atKey (.string l) (.lit (.int .i64 0)) = .lit (.int .i64 0)

theorem Named.start (m : PM) : Named m 0 (.map []) := fun _ _ => rfl
theorem Named.step {m : PM} {n : Nat} {D : DataW Unit} (h : Named m n D) : Named m (n + 1) (D.put (.string (m.name n)) (.lit (.int .i64 1))) := by
  intro l hl
  rw [atKey_put_other (by intro e; simp only [Lit.string.injEq] at e; exact hl n (by omega) e.symm)]
  exact h l fun j hj => hl j (by omega)

theorem ownsMap_below {P : Program} {k : TypeId} {R : Value → Option (DataW Unit × List MemPlace)} {w w' : World} {b n : Nat} {D : DataW Unit} (h : w.ownsMap P k R b n D) (hb : Below w.heap.size w w') : w'.ownsMap P k R b n D := by
  obtain ⟨es, clock, h1, F, hs, hD⟩ := h
  exact ⟨es, clock, (hb.block b (Array.getElem?_eq_some_iff.1 h1).1).trans h1, F, hs, hD⟩

theorem zero_of {q : Int} (h : (DataW.lit (.int .i64 q) : DataW Unit) = .lit (.int .i64 0)) : q = 0 := by simpa using h

set_option maxHeartbeats 2000000 in
theorem names_walk (k0 k1 k2 k3 k4 : Int) (w : World) :
    Calls Tryd.prog 5 #[.agg #[.int .i64 k0, .int .i64 k1, .int .i64 k2, .int .i64 k3, .int .i64 k4]] w fun e w' => e = .returned (.bool true) ∧ Below w.heap.size w w' := by
  have hmm := @run_makeMap Tryd.prog
  go_enter Tryd.func5, Tryd.ntmps5
  go_wp2_with (go_at_call 8; refine (Near_ex _ _ _ _ _ _).mono ?_; rintro e w1 ⟨⟨s, l, t, c, d, hok, rfl⟩, hb1⟩; have HOK := hid hok; obtain ⟨s1, s2, l1, l2, t1, t2, c1, c2, d1, d2⟩ := hok; obtain ⟨hc1, hf1, hz1⟩ := bcell hb1 (size_alloc1 _ _); have HB1 := hid hb1; clear hb1)
  have hsz := PM.size_bounds HOK.out
  obtain ⟨z1, z2⟩ := hsz
  go_wp2_with (go_at_call 10; refine (Size_any ⟨s, l, t, c, d⟩ _).mono ?_; rintro e w2 ⟨rfl, hb2⟩; have HM := hid ((MapAt.new 24 w1 ⟨s, l, t, c, d⟩).below hb2); have HB2 := hid (bthen (bnew (bthen (bnew (bid w) _) HB1.out) _) hb2); clear hb2 HB1 hc1 hf1 hz1)
  have HS : Hid (∃ D : DataW Unit, Named ⟨s, l, t, c, d⟩ 0 D ∧ (w2.alloc (.map #[] 0)).ownsMap Tryd.prog 9 (plainElem Tryd.prog 3) w2.heap.size 0 D ∧ MapAt 24 (w2.alloc (.map #[] 0)) w1.heap.size ⟨s, l, t, c, d⟩ ∧ Below w.heap.size w (w2.alloc (.map #[] 0))) :=
    hid ⟨_, Named.start _, World.ownsMap_made _ _ _ _, HM.out.alloc _, bnew HB2.out _⟩
  have HNE := hid (show w1.heap.size ≠ w2.heap.size from Nat.ne_of_lt HM.out.lt)
  have HBs := hid HB2.out.size
  clear HM HB2 hmm
  go_loopw [6] (fun i wr => ∃ n : Nat, (n : Int) ≤ PM.size ⟨s, l, t, c, d⟩ ∧ i = .int .i64 n ∧ ∃ D : DataW Unit, Named ⟨s, l, t, c, d⟩ n D ∧ wr.ownsMap Tryd.prog 9 (plainElem Tryd.prog 3) w2.heap.size n D ∧ MapAt 24 wr w1.heap.size ⟨s, l, t, c, d⟩ ∧ Below w.heap.size w wr) (fun i _ => (PM.size ⟨s, l, t, c, d⟩).toNat - (intOf i).toNat)
  case atStart => exact ⟨0, by omega, rfl, HS.out⟩
  case round =>
    clear HS
    obtain ⟨n, hn, rfl, D, hnm, hown, hm, hb⟩ := hrel
    have HN := hid hnm
    have HW := hid hown
    have HM := hid hm
    have HB := hid hb
    clear hnm hown hm hb
    by_cases hlt : (n : Int) < PM.size ⟨s, l, t, c, d⟩
    · obtain ⟨m0, m1, m2, m3, m4, m5⟩ := HM.out.facts
      have hfull := PM.name_full HOK.out (by omega) hlt
      have HH := hid (fun W => Name_any ⟨s, l, t, c, d⟩ n W)
      have HA := hid (HN.out _ (fun j hj he => by
        have := PM.name_inj HOK.out (a := j) (b := n) (by omega) (by omega) (by omega) hlt he
        omega))
      have HN2 := hid HN.out.step
      have HK := hid (WideMaps.keyOf_string_mk (P := Tryd.prog) (k := 9) (s := ⟨(PM.name ⟨s, l, t, c, d⟩ n).toArray⟩) Tryd.underlying9 (by show (PM.name ⟨s, l, t, c, d⟩ n).toArray.size ≤ maxLen; have := hfull.2; simp only [List.size_toArray]; unfold maxLen; omega))
      generalize PM.name ⟨s, l, t, c, d⟩ n = nm at *
      obtain ⟨f1, f2⟩ := hfull
      have f3 : nm.isEmpty = false := by cases nm with | nil => exact absurd rfl f1 | cons a r => rfl
      have hmx : n < maxLen := by unfold maxLen; omega
      clear f1
      go_wp2_with (first | (go_at_call 37; refine (HH.out _).mono ?_; rintro e w4 ⟨rfl, hb4⟩; obtain ⟨hc4, hf4, hz4⟩ := bcell hb4 rfl; have HB4 := hid hb4; have HW4 := hid (ownsMap_below HW.out hb4); clear hb4; obtain ⟨q, hrun, hat, hwq⟩ := HW4.out.lookup_int lawS Tryd.underlying44 Tryd.underlying3 (zeroI _) HK.out; obtain rfl := zero_of (hat.symm.trans HA.out); clear hat hwq) | (at_mapUpdate; refine wpList_mapUpdate_own (H := Unit) _ rfl _ _ _ 44 rfl 9 3 lawS Tryd.underlying44 (plainElem Tryd.prog 3) w2.heap.size n D rfl HW4.out hmx _ _ _ rfl rfl HK.out _ [] (plainElem_int Tryd.underlying3 (by decide)) ?_; intro w5 hown5 hg5))
      go_roundw
      case rel =>
        refine ⟨n + 1, by omega, by go_num, _, HN2.out, hown5, ?_, ?_⟩
        · exact (hg5.block _ (Nat.lt_of_lt_of_le m5 hz4) (fun e => HNE.out (by injection e))).trans (HM.out.below HB4.out)
        · exact (bthen HB.out HB4.out).grown hg5 (Nat.le_trans HB.out.size hz4) (fun k hk => by cases hk; exact HBs.out)
      case measure => simp [intOf]; omega
    · obtain ⟨m0, m1, m2, m3, m4, m5⟩ := HM.out.facts
      have HO1 := hid (PM.name_out (m := ⟨s, l, t, c, d⟩) (a := -1) (.inr (.inl (by decide))))
      have HO2 := hid (PM.name_out (m := ⟨s, l, t, c, d⟩) (a := PM.size ⟨s, l, t, c, d⟩) (.inr (.inr (Int.le_refl _))))
      go_wp2_with (first | (go_at_call 34; refine (told_any _).mono ?_; rintro e w6 ⟨rfl, hb6⟩; obtain ⟨hc6, hf6, hz6⟩ := bcell hb6 rfl; have hz7 : w1.heap.size < w6.heap.size := Nat.lt_of_lt_of_le m5 hz6; have HB6 := hid hb6; clear hb6) | (go_at_call 37; first | ((with_reducible refine (Name_any ⟨s, l, t, c, d⟩ (-1) _).mono ?_); rw [HO1.out]; rintro e w7 ⟨rfl, hb7⟩; obtain ⟨hc7, hf7, hz7⟩ := bcell hb7 rfl; have HB7 := hid hb7; clear hb7) | ((with_reducible refine (Name_any ⟨s, l, t, c, d⟩ (PM.size ⟨s, l, t, c, d⟩) _).mono ?_); rw [HO2.out]; rintro e w8 ⟨rfl, hb8⟩; have HB8 := hid hb8; clear hb8)))
      go_ret
      exact ⟨rfl, bthen (bthen (bthen HB.out HB6.out) HB7.out) HB8.out⟩

end Go.Proofs.YtjekhjjighbfaaaDoor
