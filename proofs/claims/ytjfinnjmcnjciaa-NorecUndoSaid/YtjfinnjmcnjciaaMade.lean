/-
  slices.Clone at []int64, and what package mem makes and tells as a whole: New, All, Last.
-/
import Derived.Test.YtjfinnjmcnjciaaMem
namespace Go.Proofs.Ytjfinnjmcnjciaa
open Go.RowKit

theorem infoE : (Try.prog.info? 2).map (fun i => (i.zero, i.size, i.bytes)) = some (some (.int .i64 0), 1, 8) := by kernel_rfl

theorem neg_slice (n c : Nat) (a : Option Addr) (w : World) : (binOp .eql 24 (.slice a n c) (.slice none 0 0)).run Try.prog w = .ok (.bool a.isNone) w :=
  Lib.run_eql_slice_nil w 24 2 a n c 0 0 Try.underlying24

theorem news_of {w w' : World} {x : Addr} {len : Nat} {zs : List Int} (hlen : zs.length = len) (hc : ∀ j, j < len → w.cell? (x.add j) = some (.int .i64 (zs.getD j 0)))
    (hw : Below w.heap.size w w') : ∀ j u, (zs.map (Value.int .i64))[j]? = some u → w'.cell? (x.add j) = some u := by
  intro j u hu
  rw [List.getElem?_map, Option.map_eq_some_iff] at hu
  obtain ⟨z, hz, rfl⟩ := hu
  have hj : j < len := by rw [← hlen]; exact (List.getElem?_eq_some_iff.1 hz).1
  rw [hw.cell (World.block_lt_of_cell? w _ (hc j hj)), hc j hj]
  simp [hz]

set_option maxHeartbeats 400000 in
/-- A clone: nil for nil; else a row of one's own that holds the same. -/
theorem Clone_any (a : Option Addr) (len cap : Nat) (zs : List Int) (w : World) (h : IntRow w a len zs) (hl : len ≤ 4096) :
    Calls Try.prog 97 #[.slice a len cap] w fun e w' => ∃ a' c', e = .returned (.slice a' len c') ∧ w'.ownsRow w.heap.size 2 1 (.slice a' len c') len (zs.map (Value.int .i64)) ∧ Below w.heap.size w w' := by
  rcases h with ⟨hlen, h⟩
  rcases h with ⟨rfl, rfl⟩ | ⟨x, rfl, hc⟩
  · have he := neg_slice 0 cap none
    go_enter Try.func97, Try.ntmps97
    go_wp2
    go_ret
    refine ⟨_, _, rfl, ?_, Below.refl _ _⟩
    have : zs = [] := List.length_eq_zero_iff.1 hlen
    subst this
    exact World.ownsRow_nil _ _ _ _
  · obtain ⟨i0, hi, hz0, hz1, hz2⟩ := info_parts infoE
    have he := neg_slice len cap (some x)
    have Hc := hid (news_of hlen hc ((Below.refl _ w).alloc (Nat.le_refl _) (.cells #[] 2)))
    have E1 : Hid ((zs.map (Value.int .i64)).length = len * 1) := hid (by simp [hlen])
    have E3 : Hid (0 + len ≤ maxLen) := hid (by unfold maxLen; omega)
    have E4 : Hid ((0 + len) * 8 ≤ 140737488355328) := hid (by omega)
    have E5 : Hid (w.heap.size ≤ (w.alloc (.cells #[] 2)).heap.size) := hid (by simp)
    clear hc hlen
    go_enter Try.func97, Try.ntmps97
    go_wp2_with (at_builtin; refine wpList_append_own _ rfl _ _ 24 rfl w.heap.size 2 i0 (.int .i64 0) 1 8 Try.underlying24 hi hz0 hz1 hz2 rfl (by decide) (.slice (some ⟨w.heap.size, 0, none⟩) 0 0) 0 [] rfl (World.ownsRow_lit w #[] 0 (Nat.le_refl _) (Nat.zero_le _) rfl) x len cap (zs.map (Value.int .i64)) rfl E1.out Hc.out (ints_oneCell _ _) E3.out E4.out E5.out ?_; intro v' w1 hown' hgrow _)
    obtain ⟨a', c', rfl⟩ : ∃ a' c', v' = .slice a' len c' := by
      rcases hown'.2 with ⟨h1, h2⟩ | ⟨g, cap', cur, h1, _⟩
      · exact ⟨none, 0, by rw [h1, show len = 0 by omega]⟩
      · exact ⟨some ⟨g, 0, none⟩, cap', by rw [h1, Nat.zero_add]⟩
    go_ret
    refine ⟨_, _, rfl, ?_, ?_⟩
    · simpa using hown'
    · exact ((Below.refl _ w).alloc (Nat.le_refl _) _).grown hgrow (by simp) (by intro k hk; simp [Value.ownBlock] at hk; omega)

set_option maxHeartbeats 400000 in
theorem New_many (a : Option Addr) (len cap : Nat) (w : World) (hl : 4096 < len) (hm : len ≤ maxLen) :
    Calls Try.prog 59 #[.slice a len cap] w fun e w' => e = .returned (.pointer none) ∧ w = w' := by
  unfold maxLen at hm
  go_enter Try.func59, Try.ntmps59
  go_wp2
  go_ret
  exact ⟨rfl, rfl⟩

set_option maxHeartbeats 400000 in
/-- A memory of these words: new, and nothing old has turned. -/
theorem New_any (a : Option Addr) (len cap : Nat) (zs : List Int) (w : World) (h : IntRow w a len zs) (hl : len ≤ 4096) :
    Calls Try.prog 59 #[.slice a len cap] w fun e w' => ∃ b vw, e = .returned (.pointer (some ⟨b, 0, none⟩)) ∧ Mem w' w.heap.size b vw (MS.new zs) ∧ Below w.heap.size w w' := by
  have H := hid h
  have Hl := hid h.1
  clear h
  go_enter Try.func59, Try.ntmps59
  go_wp2_with (go_at_call 97; refine (Clone_any _ _ _ _ _ H.out hl).mono ?_; rintro e w1 ⟨a', c', rfl, hown, hb⟩; have HO := hid hown; clear hown)
  go_ret
  refine ⟨_, .slice a' len c', rfl, ⟨?_, ?_, ?_, hb.size⟩, hb.alloc hb.size _⟩
  · exact heap_alloc_new _ _
  · have := HO.out.alloc (Obj.cells #[.slice a' len c', .int .i64 0, .int .i64 0, .int .i64 0, .int .i64 0, .int .i64 0, .bool false] 106)
    simpa [MS.new, Hl.out] using this
  · intro he
    have := (HO.out.lt _ he).2
    omega

end Go.Proofs.Ytjfinnjmcnjciaa
