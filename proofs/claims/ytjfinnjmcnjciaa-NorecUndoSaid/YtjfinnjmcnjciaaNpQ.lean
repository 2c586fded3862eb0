/-
  The program's attempt with values: what it tells; its sets; a new one.
-/
import Derived.Test.YtjfinnjmcnjciaaNpH
import Derived.Test.YtjfinnjmcnjciaaNlw
namespace Go.Proofs.Ytjfinnjmcnjciaa
open Go.RowKit
attribute [local go_sem] Later.cell Later.frozen

variable {w w' : World} {ρ : Nat → Nat} {r b : Nat} {x : PT} {l : PL} {B mb : Nat} {vw : Value} {s s' : MS}
set_option maxHeartbeats 1000000 in
theorem tpValue_any (h : PX w ρ r b x l) : Calls Try.prog 56 #[.pointer (some ⟨b, 0, none⟩)] w fun e w' => e = .returned (.int .i64 x.val) ∧ w = w' := by
  have c : w.cell? ⟨b, 15, none⟩ = some (.int .i64 x.val) := h.c 15
  have f := h.f 15
  clear h
  go_enter Try.func56, Try.ntmps56
  go_wp2
  go_ret
  exact ⟨rfl, rfl⟩
set_option maxHeartbeats 1000000 in
theorem tpCause_any (h : PX w ρ r b x l) : Calls Try.prog 30 #[.pointer (some ⟨b, 0, none⟩)] w fun e w' => e = .returned (.int .i64 x.cause) ∧ w = w' := by
  have c : w.cell? ⟨b, 12, none⟩ = some (.int .i64 x.cause) := h.c 12
  have f := h.f 12
  clear h
  go_enter Try.func30, Try.ntmps30
  go_wp2
  go_ret
  exact ⟨rfl, rfl⟩
set_option maxHeartbeats 1000000 in
theorem tpStamp_any (h : PX w ρ r b x l) : Calls Try.prog 26 #[.pointer (some ⟨b, 0, none⟩)] w fun e w' => e = .returned (.int .i64 x.stamp) ∧ w = w' := by
  have c : w.cell? ⟨b, 13, none⟩ = some (.int .i64 x.stamp) := h.c 13
  have f := h.f 13
  clear h
  go_enter Try.func26, Try.ntmps26
  go_wp2
  go_ret
  exact ⟨rfl, rfl⟩
set_option maxHeartbeats 1000000 in
theorem tpMade_any (h : PX w ρ r b x l) : Calls Try.prog 22 #[.pointer (some ⟨b, 0, none⟩)] w fun e w' => e = .returned (.int .i64 x.made) ∧ w = w' := by
  have c : w.cell? ⟨b, 14, none⟩ = some (.int .i64 x.made) := h.c 14
  have f := h.f 14
  clear h
  go_enter Try.func22, Try.ntmps22
  go_wp2
  go_ret
  exact ⟨rfl, rfl⟩
set_option maxHeartbeats 1000000 in
theorem tpDecided_any (h : PX w ρ r b x l) : Calls Try.prog 24 #[.pointer (some ⟨b, 0, none⟩)] w fun e w' => e = .returned (.bool x.sure) ∧ w = w' := by
  have c : w.cell? ⟨b, 11, none⟩ = some (.bool x.sure) := h.c 11
  have f := h.f 11
  clear h
  go_enter Try.func24, Try.ntmps24
  go_wp2
  go_ret
  exact ⟨rfl, rfl⟩

/-- What Sets comes to. -/
def SetsRet (w : World) (x : PT) (e : Ending) (w' : World) : Prop := ∃ va vb, e = .returned (.tuple #[va, vb]) ∧ NL w' w.heap.size va (x.rs.map fun p => p.1) ∧ WL w' w.heap.size vb x.ws ∧ Below w.heap.size w w'
set_option maxHeartbeats 4000000 in
theorem tpSets_any (h : PX w ρ r b x l) : Calls Try.prog 19 #[.pointer (some ⟨b, 0, none⟩)] w (SetsRet w x) := by
  have H := hid h
  have c8 : w.cell? ⟨b, 7, none⟩ = some (.pointer (some ⟨l.rb, 0, none⟩)) := h.c 7
  have f8 := h.f 7
  have c9 : w.cell? ⟨b, 8, none⟩ = some (.pointer (some ⟨l.wb, 0, none⟩)) := h.c 8
  have f9 := h.f 8
  have hlt := h.lt
  have HK := hid (fun (W' : World) (hb : Below w.heap.size w W') => show W'.cell? ⟨b, 7, none⟩ = some (.pointer (some ⟨l.rb, 0, none⟩)) ∧ W'.cell? ⟨b, 8, none⟩ = some (.pointer (some ⟨l.wb, 0, none⟩)) from ⟨(h.below hb).c 7, (h.below hb).c 8⟩)
  clear h
  go_enter Try.func19, Try.ntmps19
  go_wp2_with fail
  go_region_held3 (fun w' => w'.cell? ⟨b, 7, none⟩ = some (.pointer (some ⟨l.rb, 0, none⟩)) ∧ w'.cell? ⟨b, 8, none⟩ = some (.pointer (some ⟨l.wb, 0, none⟩))) (first | exact HK.out _ HB2.out | exact HK.out _ HB1.out | exact HK.out _ (bdrew (bid _)))
    (first
      | (go_at_call 64; (with_reducible refine (RdKeys_any _ _ _ _ (H.out.below (bdrew (bid _))).ins.rd).mono ?_); rintro e w1 ⟨v1, rfl, hl1, hb1⟩; have HL1 := hid hl1; have HB1 := hid (bthen (bdrew (bid _)) hb1); clear hl1 hb1)
      | (have _g := HB1; go_at_call 65; (with_reducible refine (List_any _ _ _ _ _ (H.out.below HB1.out).ins.wr).mono ?_); rintro e w2 ⟨v2, rfl, hl2, hb2⟩; have HL2 := hid hl2; have HB2 := hid (bthen HB1.out hb2); have HB12 := hid hb2; clear hl2 hb2))
  all_goals
    go_wp2_with fail
    go_ret2
    exact ⟨_, _, rfl, (HL1.out.below HB12.out), HL2.out.mono HB1.out.size, HB2.out⟩

/-- What New comes to. -/
def TpNewRet (w : World) (ρ : Nat → Nat) (r : Nat) (x : PT) (e : Ending) (w' : World) : Prop := ∃ b ρ' l, e = .returned (.pointer (some ⟨b, 0, none⟩)) ∧ w.heap.size ≤ b ∧ Gr ρ ρ' w ∧ PX w' ρ' r b x l ∧ Below w.heap.size w w'
theorem tpnew_px {w w1 w2 : World} {ρ : Nat → Nat} {r b1 b2 : Nat} {m : PM} {th top : Int} {R1 R2 : Nat} (h1 : SetAt w1 b1 R1 []) (g1 : w.heap.size ≤ b1) (h2 : WSet w2 b2 R2 [] 0) (g2 : w1.heap.size ≤ b2) (k1 : Below w.heap.size w w1) (k2 : Below w1.heap.size w1 w2) (cs : Array Value)
    (hcs : cs = ptC (PT.new m th R1 R2 top) ⟨b1, b2, .slice none 0 0, none, 0⟩) :
    TpNewRet w ρ r (PT.new m th R1 R2 top) (.returned (.pointer (some ⟨w2.heap.size, 0, none⟩))) (w2.alloc (.cells cs 99)) := by
  have l1 := h1.lt
  have l2 := h2.lt
  have s1 := k1.size
  have s2 := k2.size
  have kk := bthen k1 k2
  refine ⟨w2.heap.size, fun k => if k < w.heap.size then ρ k else if k = b1 then r + 2 else if k = b2 then r + 3 else r + 1, ⟨b1, b2, .slice none 0 0, none, 0⟩, rfl, by omega, fun k hk => if_pos hk, ?_, bnew kk _⟩
  have ha := bnew (bid w2) (.cells cs 99)
  refine ⟨by rw [heap_alloc_new, hcs], ⟨(h1.below k2).below ha, h2.below ha, WL.nil _ _, ?_, ?_, ?_, (fun k hk => by simp [Value.ownBlock] at hk), Nat.zero_le _⟩, ⟨⟨rfl, .inl ⟨rfl, rfl⟩⟩, (fun a ha => by cases ha), Nat.le_refl _, Nat.zero_le _⟩⟩
  · show (if w2.heap.size < w.heap.size then _ else _) = _
    rw [if_neg (show ¬ w2.heap.size < w.heap.size by omega), if_neg (show ¬ w2.heap.size = b1 by omega), if_neg (show ¬ w2.heap.size = b2 by omega)]
  · show (if b1 < w.heap.size then _ else _) = _
    rw [if_neg (show ¬ b1 < w.heap.size by omega), if_pos rfl]
  · show (if b2 < w.heap.size then _ else _) = _
    rw [if_neg (show ¬ b2 < w.heap.size by omega), if_neg (show ¬ b2 = b1 by omega), if_pos rfl]

set_option maxHeartbeats 4000000 in
theorem tpNew_any (m : PM) (th room most top : Int) (w : World) (ρ : Nat → Nat) (r : Nat) (h0 : 0 ≤ m.at_ 4 th 0) :
    Calls Try.prog 61 #[m.v, .int .i64 th, .int .i64 room, .int .i64 most, .int .i64 top] w (TpNewRet w ρ r (PT.new m th (capF room) (capF most) top)) := by
  have HT := hid (fun W => Thread_any m th 0 W)
  have hneg : ¬ m.at_ 4 th 0 < 0 := by omega
  generalize m.at_ 4 th 0 = z at *
  obtain ⟨s, l, t, c, d⟩ := m
  show Calls _ _ #[.agg #[.int .i64 s, .int .i64 l, .int .i64 t, .int .i64 c, .int .i64 d], _, _, _, _] _ _
  have HK := hid (fun (W0 W' : World) (h : W0.heap[w.heap.size]? = some (.cells #[.int .i64 s, .int .i64 l, .int .i64 t, .int .i64 c, .int .i64 d] 31 (0, 0))) (hb : Below W0.heap.size W0 W') => show W'.cell? ⟨w.heap.size, 0, none⟩ = some (.int .i64 s) ∧ W'.cell? ⟨w.heap.size, 1, none⟩ = some (.int .i64 l) ∧ W'.cell? ⟨w.heap.size, 2, none⟩ = some (.int .i64 t) ∧ W'.cell? ⟨w.heap.size, 3, none⟩ = some (.int .i64 c) ∧ W'.cell? ⟨w.heap.size, 4, none⟩ = some (.int .i64 d) from by
    have h' := (hb.block _ (lt_of_block h)).trans h
    exact ⟨cell_of_blk h' 0, cell_of_blk h' 1, cell_of_blk h' 2, cell_of_blk h' 3, cell_of_blk h' 4⟩)
  go_enter Try.func61, Try.ntmps61
  go_upto_region 3 with (go_at_call 25; go_must ((with_reducible refine (HT.out _).mono ?_); rintro e w1 ⟨rfl, hb⟩; have HB0 := hid (bthen (bnew (bid w) _) hb); have HG := hid ((hb.block w.heap.size (by rw [size_alloc1]; omega)).trans (heap_alloc_new w _)); clear hb))
  go_region_held3 (fun w' => w'.cell? ⟨w.heap.size, 0, none⟩ = some (.int .i64 s) ∧ w'.cell? ⟨w.heap.size, 1, none⟩ = some (.int .i64 l) ∧ w'.cell? ⟨w.heap.size, 2, none⟩ = some (.int .i64 t) ∧ w'.cell? ⟨w.heap.size, 3, none⟩ = some (.int .i64 c) ∧ w'.cell? ⟨w.heap.size, 4, none⟩ = some (.int .i64 d)) (first | exact HK.out _ _ HG.out (bnew HB2.out _) | exact HK.out _ _ HG.out HB2.out | exact HK.out _ _ HG.out HB1.out | exact HK.out _ _ HG.out (bdrew (bid _)))
    (first
      | (go_at_call 98; (with_reducible refine (RdNew_any _ _).mono ?_); rintro e w3 ⟨b1, rfl, g1, hs1, hb1⟩; have HS1 := hid hs1; have HG1 := hid g1; have HB1 := hid (bthen (bdrew (bid _)) hb1); clear hs1 hb1 g1)
      | (have _g := HB1; go_at_call 99; (with_reducible refine (wNew_any _ _).mono ?_); rintro e w4 ⟨b2, rfl, g2, hs2, hb2⟩; have HS2 := hid hs2; have HG2 := hid g2; have HB2 := hid (bthen HB1.out hb2); have HB12 := hid hb2; clear hs2 hb2 g2))
  all_goals
    go_wp2_with fail
    go_ret
    exact tpnew_px (w1 := w3) (w2 := w4) HS1.out (Nat.le_trans HB0.out.size HG1.out) HS2.out HG2.out (bthen HB0.out HB1.out) HB12.out _ rfl

end Go.Proofs.Ytjfinnjmcnjciaa
