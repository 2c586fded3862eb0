/-
  The document's own memory (syncoperef2): New, and Same.
-/
import Derived.Test.YtjfinnjmcnjciaaTold
import Derived.Deep.QuietTactic
import Derived.BigQuiet
import Derived.Deep.RegionWith
namespace Go.Proofs.Ytjfinnjmcnjciaa
open Go.RowKit

abbrev Ref (w : World) (B b : Nat) (vw : Value) (s : MS) : Prop := IsMem 131 2 w B b vw s

def MadeRef (w : World) (zs : List Int) (e : Ending) (w' : World) : Prop := ∃ b vw, e = .returned (.pointer (some ⟨b, 0, none⟩)) ∧ Ref w' w.heap.size b vw (MS.new zs) ∧ Below w.heap.size w w'

set_option maxHeartbeats 400000 in
theorem RefNew_nil (zs : List Int) (w : World) (h : IntRow w none 0 zs) :
    Calls Try.prog 60 #[.slice none 0 0] w (MadeRef w zs) := by
  have hz := List.length_eq_zero_iff.1 h.1
  subst hz
  obtain ⟨i0, hi, hz0, hz1, hz2⟩ := info_parts infoE
  clear h
  go_enter Try.func60, Try.ntmps60
  go_wp2_with (at_builtin; refine wpList_append_own_none rfl _ _ 24 rfl w.heap.size 2 i0 1 Try.underlying24 hi (.slice none 0 0) 0 [] rfl (World.ownsRow_nil _ _ _ _) rfl ?_)
  go_ret
  refine ⟨_, .slice none 0 0, rfl, ⟨?_, ?_, by simp [Value.ownBlock], Nat.le_refl _⟩, (Below.refl _ _).alloc (Nat.le_refl _) _⟩
  · exact heap_alloc_new _ _
  · exact World.ownsRow_nil _ _ _ _

set_option maxHeartbeats 400000 in
set_option maxRecDepth 100000 in
theorem RefNew_some (x : Addr) (len cap : Nat) (zs : List Int) (w : World) (h : IntRow w (some x) len zs) (hl : len ≤ 4096) :
    Calls Try.prog 60 #[.slice (some x) len cap] w (MadeRef w zs) := by
  obtain ⟨i0, hi, hz0, hz1, hz2⟩ := info_parts infoE
  obtain ⟨hlen, h⟩ := h
  rcases h with ⟨h, _⟩ | ⟨x', h, hc⟩
  · cases h
  obtain rfl : x = x' := by simpa using h
  have HN := hid (news_of hlen hc (Below.refl _ w))
  have E1 : Hid ((zs.map (Value.int .i64)).length = len * 1) := hid (by simp [hlen])
  have E3 : Hid (0 + len ≤ maxLen) := hid (by unfold maxLen; omega)
  have E4 : Hid ((0 + len) * 8 ≤ 140737488355328) := hid (by omega)
  have Hlen := hid hlen
  clear hc hlen h
  go_enter Try.func60, Try.ntmps60
  go_wp2_with (at_builtin; refine wpList_append_own _ rfl _ _ 24 rfl w.heap.size 2 i0 (.int .i64 0) 1 8 Try.underlying24 hi hz0 hz1 hz2 rfl (by decide) (.slice none 0 0) 0 [] rfl (World.ownsRow_nil _ _ _ _) x len cap (zs.map (Value.int .i64)) rfl E1.out HN.out (ints_oneCell _ _) E3.out E4.out (Nat.le_refl _) ?_; intro v1 w1 hown hgrow _; obtain ⟨a', c', hv1⟩ : ∃ a' c', v1 = .slice a' len c' := (by rcases hown.2 with ⟨h1, h2⟩ | ⟨g, cap', cur, h1, _⟩; exact ⟨none, 0, by rw [h1, show len = 0 by omega]⟩; exact ⟨some ⟨g, 0, none⟩, cap', by rw [h1, Nat.zero_add]⟩); rw [hv1]; rw [hv1] at hown; have HO := hid hown; have HG := hid hgrow; clear hown hgrow hv1)
  go_ret
  have hb : Below w.heap.size w w1 := (Below.refl _ w).grown HG.out (Nat.le_refl _) (by simp [Value.ownBlock])
  refine ⟨_, .slice a' len c', rfl, ⟨?_, ?_, ?_, hb.size⟩, hb.alloc hb.size _⟩
  · exact heap_alloc_new _ _
  · have := HO.out.alloc (Obj.cells #[.slice a' len c', .int .i64 0, .int .i64 0, .int .i64 0, .int .i64 0, .int .i64 0, .bool false] 131)
    simpa [MS.new, Hlen.out] using this
  · intro he
    have := (HO.out.lt _ he).2
    omega

theorem RefNew_any (a : Option Addr) (len cap : Nat) (zs : List Int) (w : World) (h : IntRow w a len zs) (hl : len ≤ 4096) (hcap : a = none → cap = 0) :
    Calls Try.prog 60 #[.slice a len cap] w (MadeRef w zs) := by
  cases a with
  | none =>
    obtain rfl := hcap rfl
    obtain rfl : len = 0 := by rcases h.2 with ⟨_, h⟩ | ⟨x, h, _⟩; exact h; cases h
    exact RefNew_nil zs w h
  | some x => exact RefNew_some x len cap zs w h hl


theorem IsMem.drewN {T E : TypeId} {w : World} {B b : Nat} {vw : Value} {s : MS} (h : IsMem T E w B b vw s) (n : Nat) : IsMem T E (w.drewN n) B b vw s :=
  h.kept ((Wrote.refl (fun _ => False) w).drewN n) fun _ _ h => h

theorem Len_quiet (w : World) (B b : Nat) (vw : Value) (s : MS) (h : Mem w B b vw s) (L : Nat) (hL : s.zs.length = L) (n : Nat) :
    Calls Try.prog 69 #[.pointer (some ⟨b, 0, none⟩)] (w.drewN n) fun e w'' => e = .returned (.int .i64 L) ∧ ∃ m, w'' = w.drewN m :=
  (Len_any _ _ _ _ _ (h.drewN n)).mono fun _ _ ⟨he, hw⟩ => ⟨by rw [he, hL], n, hw.symm⟩

/-- Both hold the same words. -/
def SameAt (W : World) (wr : World) : Prop := ∃ n, wr = W.drewN n

end Go.Proofs.Ytjfinnjmcnjciaa
