/-
  Layer 6's piece: some instructions, out of a number.
-/
import Derived.Test.YtblalejegjieaaaGreatDoorKPiece
import Derived.Deep.DeepCutAuto
namespace Go.Proofs.YtblalejegjieaaaGreatDoor
open Go.RowKit
set_option linter.unusedVariables false

def pL4 (q a b : Int) : List Ins := secL a ([(ldI 2 (wordF a (q / 3)))] ++ secL b [(ldI 3 (wordF b (q / 9))), (upI 2), (stI 2 (wordF b (q / 9)))] ++ [(upI 3), (stI 3 (wordF a (q / 27)))])
def pL0' (q l d e : Int) : List Ins := [(⟨12, (pickF q 4), 0, 0, 0⟩ : Ins)]
def pL1' (q l d e : Int) : List Ins := [(⟨1, 2, 0, 0, (pickF q 9 - 4)⟩ : Ins)]
def pL2' (q l d e : Int) : List Ins := secL l [(ldI 2 d), (upI 2), (stI 2 d)]
def pL3' (q l d e : Int) : List Ins := secL l [(ldI 2 d), (ldI 3 e), (stI 3 d), (stI 2 e)]
def pL4' (q l d e : Int) : List Ins := pL4 q (pickF q 2) (pickF q 2 + 1 + pickF (q / 2) (2 - pickF q 2))
def pL5' (q l d e : Int) : List Ins := [(⟨13, 2, 1, 0, 0⟩ : Ins), (ldI 2 (wordF 2 q)), (ldI 3 (wordF 2 (q / 3))), (⟨14, 0, 0, 0, 0⟩ : Ins), (⟨12, 2, 0, 0, 0⟩ : Ins), (⟨12, 3, 0, 0, 0⟩ : Ins)]
def pL6' (q l d e : Int) : List Ins := secL l [(⟨10, 0, 0, 0, d⟩ : Ins)] ++ [(ldI 2 d), (upI 2), (stI 2 d)] ++ secL l [(⟨11, 0, 0, 0, d⟩ : Ins)]
def pL7' (q l d e : Int) : List Ins := secL l [(ldI 2 d), (⟨18, 2, 0, 0, 0⟩ : Ins), (⟨19, 0, 0, 0, 0⟩ : Ins), (⟨15, l, 0, 0, 0⟩ : Ins), (⟨20, 0, 0, 0, 0⟩ : Ins), (ldI 3 d)]
def pL8' (q l d e : Int) : List Ins := secL l [(ldI 2 d), (upI 2), (stI 2 d), (⟨16, l, 0, 0, 0⟩ : Ins)]
def pL9' (q l d e : Int) : List Ins := secL l [(ldI 2 d), (upI 2), (stI 2 d), (⟨17, l, 0, 0, 0⟩ : Ins)]
def pL10' (q l d e : Int) : List Ins := secL l [(ldI 2 d), (⟨8, 3, 2, 0, (e - 2)⟩ : Ins)] ++ [(⟨12, 3, 0, 0, 0⟩ : Ins)]
def pL11' (q l d e : Int) : List Ins := [(⟨1, 3, 0, 0, (1 + pickF (q / 9) 3)⟩ : Ins), (⟨21, 3, 0, 0, 0⟩ : Ins)] ++ secL l [(ldI 2 d), (upI 2), (stI 2 d)] ++ [(⟨3, 3, 3, 1, 0⟩ : Ins), (⟨22, 0, 0, 0, 0⟩ : Ins)]
def pL12' (q l d e : Int) : List Ins := secL l [(⟨1, 3, 0, 0, (1 + pickF (q / 9) 3)⟩ : Ins), (⟨21, 3, 0, 0, 0⟩ : Ins), (ldI 2 d), (upI 2), (stI 2 d), (⟨3, 3, 3, 1, 0⟩ : Ins), (⟨22, 0, 0, 0, 0⟩ : Ins)]
def pieceL (r q l d e : Int) : List Ins :=
  if r = 0 then pL0' q l d e else if r = 1 then pL1' q l d e else if r = 2 then pL2' q l d e else if r = 3 then pL3' q l d e else if r = 4 then pL4' q l d e else if r = 5 then pL5' q l d e else if r = 6 then pL6' q l d e else if r = 7 then pL7' q l d e else if r = 8 then pL8' q l d e else if r = 9 then pL9' q l d e else if r = 10 then pL10' q l d e else if r = 11 then pL11' q l d e else pL12' q l d e
def qF (x : Int) : Int := IntKind.u64.wrap x / 13 % 1073741824
def pieceF (x : Int) : List Ins := pieceL (pickF x 13) (qF x) (pickF (qF x) 3) (wordF (pickF (qF x) 3) (qF x / 3)) (wordF (pickF (qF x) 3) (qF x / 9))
theorem qF_in (x : Int) : 0 ≤ qF x ∧ qF x < 1073741824 := by unfold qF; omega

theorem OwnIns.shapeN {B : Nat} {v : Value} {ps : List Ins} {w : World} (h : OwnIns B v ps w) (n : Nat) (hn : ps.length = n) : ∃ a c, v = .slice a n c ∧ InsRow w a n ps ∧ (a = none → c = 0) := by
  subst hn
  obtain ⟨a, c, h1, h2, h3, _⟩ := h.shape
  exact ⟨a, c, h1, h2, h3⟩

set_option maxRecDepth 100000 in
set_option maxHeartbeats 8000000 in
theorem piece_any (x : Int) (W : World) :
    Calls Tryz.prog 30 #[.int .i64 x] W (InsRet (pieceF x) W) := by
  obtain ⟨iI, hi, hz0, hz1, hz2⟩ := info_parts infoIns
  have HPF : Hid (pieceF x = pieceL (pickF x 13) (qF x) (pickF (qF x) 3) (wordF (pickF (qF x) 3) (qF x / 3)) (wordF (pickF (qF x) 3) (qF x / 9))) := hid rfl
  have hu0 := u64_lo x
  have hu1 := u64_hi x
  have HQ0 : Hid (qF x = IntKind.u64.wrap x / 13 % 1073741824) := hid rfl
  have hq := qF_in x
  go_enter Tryz.func30, Tryz.ntmps30
  go_upto_region 2 with fail
  rw [← HQ0.out]
  obtain ⟨hq0, hq1⟩ := hq
  generalize qF x = q at HPF hq0 hq1 ⊢
  have hl := pickF_in (x := q) (n := 3) (by decide)
  obtain ⟨hl0, hl1⟩ := hl
  go_upto_region 3 with (go_at_call 9; refine (pick6_any _ _ _ (by omega) (by omega)).mono ?_; rintro e w' ⟨rfl, rfl⟩)
  generalize pickF q 3 = l at HPF hl0 hl1 ⊢
  have hd := wordF_in (l := l) (q := q / 3) hl0 (by omega)
  have he := wordF_in (l := l) (q := q / 9) hl0 (by omega)
  obtain ⟨hd0, hd1⟩ := hd
  obtain ⟨he0, he1⟩ := he
  go_upto_region 4 with (go_at_call 46; refine (word_any _ _ _ (by omega) (by omega)).mono ?_; rintro e w' ⟨rfl, rfl⟩)
  generalize wordF l (q / 3) = d at HPF hd0 hd1 ⊢
  generalize wordF l (q / 9) = e at HPF he0 he1 ⊢
  have hr := pickF_in (x := x) (n := 13) (by decide)
  obtain ⟨hr0, hr1⟩ := hr
  go_upto_region 5 with (go_at_call 9; refine (pick6_any _ _ _ (by omega) (by omega)).mono ?_; rintro e w' ⟨rfl, rfl⟩)
  generalize pickF x 13 = r at HPF hr0 hr1 ⊢
  clear HQ0 hu0 hu1
  have hr : r = 0 ∨ r = 1 ∨ r = 2 ∨ r = 3 ∨ r = 4 ∨ r = 5 ∨ r = 6 ∨ r = 7 ∨ r = 8 ∨ r = 9 ∨ r = 10 ∨ r = 11 ∨ r = 12 := by omega
  clear hr0 hr1
  rcases hr with rfl | rfl | rfl | rfl | rfl | rfl | rfl | rfl | rfl | rfl | rfl | rfl | rfl
  · have HPL := hid (HPF.out.trans (show pieceL 0 q l d e = pL0' q l d e from rfl))
    clear HPF
    go_wp2_with (first | (go_at_call 9; refine (pick6_any _ _ _ (by omega) (by omega)).mono ?_; rintro e w' ⟨rfl, rfl⟩) | (go_at_call 46; refine (word_any _ _ _ (by omega) (by omega)).mono ?_; rintro e w' ⟨rfl, rfl⟩))
    go_ret
    exact ⟨_, rfl, by rw [HPL.out]; exact (OwnIns.lit [(⟨12, (pickF q 4), 0, 0, 0⟩ : Ins)] 1 W _ W.heap.size rfl rfl (bid W).size (by decide)), (bnew (bid W) _)⟩
  · have HPL := hid (HPF.out.trans (show pieceL 1 q l d e = pL1' q l d e from rfl))
    clear HPF
    have b9 := pickF_in (x := q) (n := 9) (by decide)
    obtain ⟨b90, b91⟩ := b9
    go_wp2_with (first | (go_at_call 9; refine (pick6_any _ _ _ (by omega) (by omega)).mono ?_; rintro e w' ⟨rfl, rfl⟩) | (go_at_call 46; refine (word_any _ _ _ (by omega) (by omega)).mono ?_; rintro e w' ⟨rfl, rfl⟩))
    go_ret
    exact ⟨_, rfl, by rw [HPL.out]; exact (OwnIns.lit [(⟨1, 2, 0, 0, (pickF q 9 - 4)⟩ : Ins)] 1 W _ W.heap.size rfl rfl (bid W).size (by decide)), (bnew (bid W) _)⟩
  · have HPL := hid (HPF.out.trans (show pieceL 2 q l d e = pL2' q l d e from rfl))
    clear HPF
    go_wp2_with (first | (go_at_call 47; have _g := HB3; go_must (refine (section_any l _ 3 3 [(ldI 2 d), (upI 2), (stI 2 d)] _ (InsRow.lit [(ldI 2 d), (upI 2), (stI 2 d)] 3 w3 _ _ rfl rfl) (by simp) (by decide)).mono ?_; rintro e w4 ⟨v4, rfl, ho, hb⟩; have HQ4 := hid hb; have HO4 := hid (ho.mono (bnew HB3.out _).size); have HB4 := hid (bthen (bnew HB3.out _) hb); clear ho hb)) | (go_at_call 50; ((with_reducible refine (st_any 2 d _).mono ?_); rintro e w3 ⟨rfl, hb⟩; have HQ3 := hid hb; have HB3 := hid (bthen HB2.out hb); clear hb)) | (go_at_call 49; ((with_reducible refine (up_any 2 _).mono ?_); rintro e w2 ⟨rfl, hb⟩; have HQ2 := hid hb; have HB2 := hid (bthen HB1.out hb); clear hb)) | (go_at_call 48; ((with_reducible refine (ld_any 2 d _).mono ?_); rintro e w1 ⟨rfl, hb⟩; have HQ1 := hid hb; have HB1 := hid (bthen (bid W) hb); clear hb)) | (go_at_call 9; refine (pick6_any _ _ _ (by omega) (by omega)).mono ?_; rintro e w' ⟨rfl, rfl⟩) | (go_at_call 46; refine (word_any _ _ _ (by omega) (by omega)).mono ?_; rintro e w' ⟨rfl, rfl⟩))
    go_ret
    exact ⟨_, rfl, by rw [HPL.out]; exact HO4.out, HB4.out⟩
  · have HPL := hid (HPF.out.trans (show pieceL 3 q l d e = pL3' q l d e from rfl))
    clear HPF
    go_wp2_with (first | (go_at_call 47; have _g := HB4; go_must (refine (section_any l _ 4 4 [(ldI 2 d), (ldI 3 e), (stI 3 d), (stI 2 e)] _ (InsRow.lit [(ldI 2 d), (ldI 3 e), (stI 3 d), (stI 2 e)] 4 w4 _ _ rfl rfl) (by simp) (by decide)).mono ?_; rintro e w5 ⟨v5, rfl, ho, hb⟩; have HQ5 := hid hb; have HO5 := hid (ho.mono (bnew HB4.out _).size); have HB5 := hid (bthen (bnew HB4.out _) hb); clear ho hb)) | (go_at_call 50; ((with_reducible refine (st_any 2 e _).mono ?_); rintro e w4 ⟨rfl, hb⟩; have HQ4 := hid hb; have HB4 := hid (bthen HB3.out hb); clear hb)) | (go_at_call 50; ((with_reducible refine (st_any 3 d _).mono ?_); rintro e w3 ⟨rfl, hb⟩; have HQ3 := hid hb; have HB3 := hid (bthen HB2.out hb); clear hb)) | (go_at_call 48; ((with_reducible refine (ld_any 3 e _).mono ?_); rintro e w2 ⟨rfl, hb⟩; have HQ2 := hid hb; have HB2 := hid (bthen HB1.out hb); clear hb)) | (go_at_call 48; ((with_reducible refine (ld_any 2 d _).mono ?_); rintro e w1 ⟨rfl, hb⟩; have HQ1 := hid hb; have HB1 := hid (bthen (bid W) hb); clear hb)) | (go_at_call 9; refine (pick6_any _ _ _ (by omega) (by omega)).mono ?_; rintro e w' ⟨rfl, rfl⟩) | (go_at_call 46; refine (word_any _ _ _ (by omega) (by omega)).mono ?_; rintro e w' ⟨rfl, rfl⟩))
    go_ret
    exact ⟨_, rfl, by rw [HPL.out]; exact HO5.out, HB5.out⟩
  · have HPL := hid (HPF.out.trans (show pieceL 4 q l d e = pL4' q l d e from rfl))
    clear HPF
    have c2 := pickF_in (x := q) (n := 2) (by decide)
    obtain ⟨c20, c21⟩ := c2
    go_upto_region 15 with (go_at_call 9; refine (pick6_any _ _ _ (by omega) (by omega)).mono ?_; rintro e w' ⟨rfl, rfl⟩)
    have HPL4 : Hid (pL4' q l d e = pL4 q (pickF q 2) (pickF q 2 + 1 + pickF (q / 2) (2 - pickF q 2))) := hid rfl
    generalize pickF q 2 = a at c20 c21 HPL4 ⊢
    have c3 := pickF_in (x := q / 2) (n := 2 - a) (by omega)
    obtain ⟨c30, c31⟩ := c3
    go_upto_region 16 with (go_at_call 9; refine (pick6_any _ _ _ (by omega) (by omega)).mono ?_; rintro e w' ⟨rfl, rfl⟩)
    have hb0 : ∃ b, a + 1 + pickF (q / 2) (2 - a) = b ∧ 0 ≤ b ∧ b ≤ 2 := ⟨_, rfl, by omega, by omega⟩
    obtain ⟨b, hbe, hb0, hb1'⟩ := hb0
    rw [hbe] at HPL4 ⊢
    clear hbe c30 c31
    have HPL := hid (HPL.out.trans HPL4.out)
    go_wp2_with (first | (go_at_call 47; have _g := HB9; go_must (refine (section_any a _ 8 _ _ _ HSR9.out HSN9.out (by decide)).mono ?_; rintro e w10 ⟨v10, rfl, ho, hb⟩; have HQ10 := hid hb; have HO10 := hid (ho.mono HB9.out.size); have HB10 := hid (bthen HB9.out hb); clear ho hb)) | (at_builtin; have _g := HB8; go_must (refine wpList_append_insRow rfl (.tmp 97) (.tmp 104) 38 rfl Tryz.underlying38 hi hz0 rfl hz1 hz2 rfl (((HO6.out.below HQ7.out).below HQ8.out).below (bnew (bid _) _)) rfl (InsRow.lit [(upI 3), (stI 3 (wordF a (q / 27)))] 2 w8 _ _ rfl rfl) (by simp) (Nat.le_of_ble_eq_true rfl) (bnew HB8.out _).size ?_; intro v9 w9 hown hat hw; have HO9 := hid hown; have HB9 := hid (own_below (bnew HB8.out _) (((HO6.out.below HQ7.out).below HQ8.out).below (bnew (bid _) _)) (bnew HB8.out _).size hw); clear hown hat hw; obtain ⟨sa9, sc9, rfl, hsr, hsn⟩ := HO9.out.shapeN 8 (by rfl); have HSR9 := hid hsr; have HSN9 := hid hsn; clear hsr hsn)) | (go_at_call 50; ((with_reducible refine (st_any 3 _ _).mono ?_); rintro e w8 ⟨rfl, hb⟩; have HQ8 := hid hb; have HB8 := hid (bthen HB7.out hb); clear hb)) | (go_at_call 49; ((with_reducible refine (up_any 3 _).mono ?_); rintro e w7 ⟨rfl, hb⟩; have HQ7 := hid hb; have HB7 := hid (bthen HB6.out hb); clear hb)) | (at_builtin; have _g := HB5; go_must (refine wpList_append_insRow rfl (.tmp 82) (.tmp 96) 38 rfl Tryz.underlying38 hi hz0 rfl hz1 hz2 rfl ((((((OwnIns.lit [(ldI 2 (wordF a (q / 3)))] 1 w1 _ W.heap.size rfl rfl HB1.out.size (by decide)).below HQ2.out).below HQ3.out).below HQ4.out).below (bnew (bid _) _)).below HQ5.out) rfl HSR5.out HSN5.out (Nat.le_of_ble_eq_true rfl) HB5.out.size ?_; intro v6 w6 hown hat hw; have HO6 := hid hown; have HB6 := hid (own_below HB5.out ((((((OwnIns.lit [(ldI 2 (wordF a (q / 3)))] 1 w1 _ W.heap.size rfl rfl HB1.out.size (by decide)).below HQ2.out).below HQ3.out).below HQ4.out).below (bnew (bid _) _)).below HQ5.out) HB5.out.size hw); clear hown hat hw)) | (go_at_call 47; have _g := HB4; go_must (refine (section_any b _ 3 3 [(ldI 3 (wordF b (q / 9))), (upI 2), (stI 2 (wordF b (q / 9)))] _ (InsRow.lit [(ldI 3 (wordF b (q / 9))), (upI 2), (stI 2 (wordF b (q / 9)))] 3 w4 _ _ rfl rfl) (by simp) (by decide)).mono ?_; rintro e w5 ⟨v5, rfl, ho, hb⟩; have HQ5 := hid hb; have HO5 := hid (ho.mono (bnew HB4.out _).size); have HB5 := hid (bthen (bnew HB4.out _) hb); obtain ⟨sa5, sc5, rfl, hsr, hsn⟩ := ho.shapeN 5 (by rfl); have HSR5 := hid hsr; have HSN5 := hid hsn; clear hsr hsn; clear ho hb)) | (go_at_call 50; ((with_reducible refine (st_any 2 _ _).mono ?_); rintro e w4 ⟨rfl, hb⟩; have HQ4 := hid hb; have HB4 := hid (bthen HB3.out hb); clear hb)) | (go_at_call 49; ((with_reducible refine (up_any 2 _).mono ?_); rintro e w3 ⟨rfl, hb⟩; have HQ3 := hid hb; have HB3 := hid (bthen HB2.out hb); clear hb)) | (go_at_call 48; ((with_reducible refine (ld_any 3 _ _).mono ?_); rintro e w2 ⟨rfl, hb⟩; have HQ2 := hid hb; have HB2 := hid (bthen (bnew HB1.out _) hb); clear hb)) | (go_at_call 48; ((with_reducible refine (ld_any 2 _ _).mono ?_); rintro e w1 ⟨rfl, hb⟩; have HQ1 := hid hb; have HB1 := hid (bthen (bid W) hb); clear hb)) | (go_at_call 9; refine (pick6_any _ _ _ (by omega) (by omega)).mono ?_; rintro e w' ⟨rfl, rfl⟩) | (go_at_call 46; refine (word_any _ _ _ (by omega) (by omega)).mono ?_; rintro e w' ⟨rfl, rfl⟩))
    go_ret
    exact ⟨_, rfl, by rw [HPL.out]; exact HO10.out, HB10.out⟩
  · have HPL := hid (HPF.out.trans (show pieceL 5 q l d e = pL5' q l d e from rfl))
    clear HPF
    go_wp2_with (first | (go_at_call 48; ((with_reducible refine (ld_any 3 _ _).mono ?_); rintro e w2 ⟨rfl, hb⟩; have HQ2 := hid hb; have HB2 := hid (bthen HB1.out hb); clear hb)) | (go_at_call 48; ((with_reducible refine (ld_any 2 _ _).mono ?_); rintro e w1 ⟨rfl, hb⟩; have HQ1 := hid hb; have HB1 := hid (bthen (bid W) hb); clear hb)) | (go_at_call 9; refine (pick6_any _ _ _ (by omega) (by omega)).mono ?_; rintro e w' ⟨rfl, rfl⟩) | (go_at_call 46; refine (word_any _ _ _ (by omega) (by omega)).mono ?_; rintro e w' ⟨rfl, rfl⟩))
    go_ret
    exact ⟨_, rfl, by rw [HPL.out]; exact (OwnIns.lit [(⟨13, 2, 1, 0, 0⟩ : Ins), (ldI 2 (wordF 2 q)), (ldI 3 (wordF 2 (q / 3))), (⟨14, 0, 0, 0, 0⟩ : Ins), (⟨12, 2, 0, 0, 0⟩ : Ins), (⟨12, 3, 0, 0, 0⟩ : Ins)] 6 w2 _ W.heap.size rfl rfl HB2.out.size (by decide)), (bnew HB2.out _)⟩
  · have HPL := hid (HPF.out.trans (show pieceL 6 q l d e = pL6' q l d e from rfl))
    clear HPF
    go_upto_region 21 with (first | (at_builtin; have _g := HB4; go_must (refine wpList_append_insRow rfl (.tmp 127) (.tmp 133) 38 rfl Tryz.underlying38 hi hz0 rfl hz1 hz2 rfl ((((HO1.out.below HQ2.out).below HQ3.out).below HQ4.out).below (bnew (bid _) _)) rfl (InsRow.lit [(ldI 2 d), (upI 2), (stI 2 d)] 3 w4 _ _ rfl rfl) (by simp) (Nat.le_of_ble_eq_true rfl) (bnew HB4.out _).size ?_; intro v5 w5 hown hat hw; have HO5 := hid hown; have HB5 := hid (own_below (bnew HB4.out _) ((((HO1.out.below HQ2.out).below HQ3.out).below HQ4.out).below (bnew (bid _) _)) (bnew HB4.out _).size hw); clear hown hat hw)) | (go_at_call 50; ((with_reducible refine (st_any 2 d _).mono ?_); rintro e w4 ⟨rfl, hb⟩; have HQ4 := hid hb; have HB4 := hid (bthen HB3.out hb); clear hb)) | (go_at_call 49; ((with_reducible refine (up_any 2 _).mono ?_); rintro e w3 ⟨rfl, hb⟩; have HQ3 := hid hb; have HB3 := hid (bthen HB2.out hb); clear hb)) | (go_at_call 48; ((with_reducible refine (ld_any 2 d _).mono ?_); rintro e w2 ⟨rfl, hb⟩; have HQ2 := hid hb; have HB2 := hid (bthen HB1.out hb); clear hb)) | (go_at_call 47; go_must (refine (section_any l _ 1 1 [(⟨10, 0, 0, 0, d⟩ : Ins)] _ (InsRow.lit [(⟨10, 0, 0, 0, d⟩ : Ins)] 1 W _ _ rfl rfl) (by simp) (by decide)).mono ?_; rintro e w1 ⟨v1, rfl, ho, hb⟩; have HQ1 := hid hb; have HO1 := hid (ho.mono (bnew (bid W) _).size); have HB1 := hid (bthen (bnew (bid W) _) hb); clear ho hb)) | (go_at_call 9; refine (pick6_any _ _ _ (by omega) (by omega)).mono ?_; rintro e w' ⟨rfl, rfl⟩) | (go_at_call 46; refine (word_any _ _ _ (by omega) (by omega)).mono ?_; rintro e w' ⟨rfl, rfl⟩))
    go_wp2_with (first | (at_builtin; have _g := HB6; go_must (refine wpList_append_insRow rfl (.tmp 135) (.tmp 140) 38 rfl Tryz.underlying38 hi hz0 rfl hz1 hz2 rfl ((HO5.out.below (bnew (bid _) _)).below HQ6.out) rfl HSR6.out HSN6.out (Nat.le_of_ble_eq_true rfl) HB6.out.size ?_; intro v7 w7 hown hat hw; have HO7 := hid hown; have HB7 := hid (own_below HB6.out ((HO5.out.below (bnew (bid _) _)).below HQ6.out) HB6.out.size hw); clear hown hat hw)) | (go_at_call 47; have _g := HB5; go_must (refine (section_any l _ 1 1 [(⟨11, 0, 0, 0, d⟩ : Ins)] _ (InsRow.lit [(⟨11, 0, 0, 0, d⟩ : Ins)] 1 w5 _ _ rfl rfl) (by simp) (by decide)).mono ?_; rintro e w6 ⟨v6, rfl, ho, hb⟩; have HQ6 := hid hb; have HO6 := hid (ho.mono (bnew HB5.out _).size); have HB6 := hid (bthen (bnew HB5.out _) hb); obtain ⟨sa6, sc6, rfl, hsr, hsn⟩ := ho.shapeN 3 (by rfl); have HSR6 := hid hsr; have HSN6 := hid hsn; clear hsr hsn; clear ho hb)) | (go_at_call 9; refine (pick6_any _ _ _ (by omega) (by omega)).mono ?_; rintro e w' ⟨rfl, rfl⟩) | (go_at_call 46; refine (word_any _ _ _ (by omega) (by omega)).mono ?_; rintro e w' ⟨rfl, rfl⟩))
    go_ret
    exact ⟨_, rfl, by rw [HPL.out]; exact HO7.out, HB7.out⟩
  · have HPL := hid (HPF.out.trans (show pieceL 7 q l d e = pL7' q l d e from rfl))
    clear HPF
    go_wp2_with (first | (go_at_call 47; have _g := HB2; go_must (refine (section_any l _ 6 6 [(ldI 2 d), (⟨18, 2, 0, 0, 0⟩ : Ins), (⟨19, 0, 0, 0, 0⟩ : Ins), (⟨15, l, 0, 0, 0⟩ : Ins), (⟨20, 0, 0, 0, 0⟩ : Ins), (ldI 3 d)] _ (InsRow.lit [(ldI 2 d), (⟨18, 2, 0, 0, 0⟩ : Ins), (⟨19, 0, 0, 0, 0⟩ : Ins), (⟨15, l, 0, 0, 0⟩ : Ins), (⟨20, 0, 0, 0, 0⟩ : Ins), (ldI 3 d)] 6 w2 _ _ rfl rfl) (by simp) (by decide)).mono ?_; rintro e w3 ⟨v3, rfl, ho, hb⟩; have HQ3 := hid hb; have HO3 := hid (ho.mono (bnew HB2.out _).size); have HB3 := hid (bthen (bnew HB2.out _) hb); clear ho hb)) | (go_at_call 48; ((with_reducible refine (ld_any 3 d _).mono ?_); rintro e w2 ⟨rfl, hb⟩; have HQ2 := hid hb; have HB2 := hid (bthen HB1.out hb); clear hb)) | (go_at_call 48; ((with_reducible refine (ld_any 2 d _).mono ?_); rintro e w1 ⟨rfl, hb⟩; have HQ1 := hid hb; have HB1 := hid (bthen (bid W) hb); clear hb)) | (go_at_call 9; refine (pick6_any _ _ _ (by omega) (by omega)).mono ?_; rintro e w' ⟨rfl, rfl⟩) | (go_at_call 46; refine (word_any _ _ _ (by omega) (by omega)).mono ?_; rintro e w' ⟨rfl, rfl⟩))
    go_ret
    exact ⟨_, rfl, by rw [HPL.out]; exact HO3.out, HB3.out⟩
  · have HPL := hid (HPF.out.trans (show pieceL 8 q l d e = pL8' q l d e from rfl))
    clear HPF
    go_wp2_with (first | (go_at_call 47; have _g := HB3; go_must (refine (section_any l _ 4 4 [(ldI 2 d), (upI 2), (stI 2 d), (⟨16, l, 0, 0, 0⟩ : Ins)] _ (InsRow.lit [(ldI 2 d), (upI 2), (stI 2 d), (⟨16, l, 0, 0, 0⟩ : Ins)] 4 w3 _ _ rfl rfl) (by simp) (by decide)).mono ?_; rintro e w4 ⟨v4, rfl, ho, hb⟩; have HQ4 := hid hb; have HO4 := hid (ho.mono (bnew HB3.out _).size); have HB4 := hid (bthen (bnew HB3.out _) hb); clear ho hb)) | (go_at_call 50; ((with_reducible refine (st_any 2 d _).mono ?_); rintro e w3 ⟨rfl, hb⟩; have HQ3 := hid hb; have HB3 := hid (bthen HB2.out hb); clear hb)) | (go_at_call 49; ((with_reducible refine (up_any 2 _).mono ?_); rintro e w2 ⟨rfl, hb⟩; have HQ2 := hid hb; have HB2 := hid (bthen HB1.out hb); clear hb)) | (go_at_call 48; ((with_reducible refine (ld_any 2 d _).mono ?_); rintro e w1 ⟨rfl, hb⟩; have HQ1 := hid hb; have HB1 := hid (bthen (bid W) hb); clear hb)) | (go_at_call 9; refine (pick6_any _ _ _ (by omega) (by omega)).mono ?_; rintro e w' ⟨rfl, rfl⟩) | (go_at_call 46; refine (word_any _ _ _ (by omega) (by omega)).mono ?_; rintro e w' ⟨rfl, rfl⟩))
    go_ret
    exact ⟨_, rfl, by rw [HPL.out]; exact HO4.out, HB4.out⟩
  · have HPL := hid (HPF.out.trans (show pieceL 9 q l d e = pL9' q l d e from rfl))
    clear HPF
    go_wp2_with (first | (go_at_call 47; have _g := HB3; go_must (refine (section_any l _ 4 4 [(ldI 2 d), (upI 2), (stI 2 d), (⟨17, l, 0, 0, 0⟩ : Ins)] _ (InsRow.lit [(ldI 2 d), (upI 2), (stI 2 d), (⟨17, l, 0, 0, 0⟩ : Ins)] 4 w3 _ _ rfl rfl) (by simp) (by decide)).mono ?_; rintro e w4 ⟨v4, rfl, ho, hb⟩; have HQ4 := hid hb; have HO4 := hid (ho.mono (bnew HB3.out _).size); have HB4 := hid (bthen (bnew HB3.out _) hb); clear ho hb)) | (go_at_call 50; ((with_reducible refine (st_any 2 d _).mono ?_); rintro e w3 ⟨rfl, hb⟩; have HQ3 := hid hb; have HB3 := hid (bthen HB2.out hb); clear hb)) | (go_at_call 49; ((with_reducible refine (up_any 2 _).mono ?_); rintro e w2 ⟨rfl, hb⟩; have HQ2 := hid hb; have HB2 := hid (bthen HB1.out hb); clear hb)) | (go_at_call 48; ((with_reducible refine (ld_any 2 d _).mono ?_); rintro e w1 ⟨rfl, hb⟩; have HQ1 := hid hb; have HB1 := hid (bthen (bid W) hb); clear hb)) | (go_at_call 9; refine (pick6_any _ _ _ (by omega) (by omega)).mono ?_; rintro e w' ⟨rfl, rfl⟩) | (go_at_call 46; refine (word_any _ _ _ (by omega) (by omega)).mono ?_; rintro e w' ⟨rfl, rfl⟩))
    go_ret
    exact ⟨_, rfl, by rw [HPL.out]; exact HO4.out, HB4.out⟩
  · have HPL := hid (HPF.out.trans (show pieceL 10 q l d e = pL10' q l d e from rfl))
    clear HPF
    go_wp2_with (first | (at_builtin; have _g := HB2; go_must (refine wpList_append_insRow rfl (.tmp 189) (.tmp 191) 38 rfl Tryz.underlying38 hi hz0 rfl hz1 hz2 rfl (HO2.out.below (bnew (bid _) _)) rfl (InsRow.lit [(⟨12, 3, 0, 0, 0⟩ : Ins)] 1 w2 _ _ rfl rfl) (by simp) (Nat.le_of_ble_eq_true rfl) (bnew HB2.out _).size ?_; intro v3 w3 hown hat hw; have HO3 := hid hown; have HB3 := hid (own_below (bnew HB2.out _) (HO2.out.below (bnew (bid _) _)) (bnew HB2.out _).size hw); clear hown hat hw)) | (go_at_call 47; have _g := HB1; go_must (refine (section_any l _ 2 2 [(ldI 2 d), (⟨8, 3, 2, 0, (e - 2)⟩ : Ins)] _ (InsRow.lit [(ldI 2 d), (⟨8, 3, 2, 0, (e - 2)⟩ : Ins)] 2 w1 _ _ rfl rfl) (by simp) (by decide)).mono ?_; rintro e w2 ⟨v2, rfl, ho, hb⟩; have HQ2 := hid hb; have HO2 := hid (ho.mono (bnew HB1.out _).size); have HB2 := hid (bthen (bnew HB1.out _) hb); clear ho hb)) | (go_at_call 48; ((with_reducible refine (ld_any 2 d _).mono ?_); rintro e w1 ⟨rfl, hb⟩; have HQ1 := hid hb; have HB1 := hid (bthen (bid W) hb); clear hb)) | (go_at_call 9; refine (pick6_any _ _ _ (by omega) (by omega)).mono ?_; rintro e w' ⟨rfl, rfl⟩) | (go_at_call 46; refine (word_any _ _ _ (by omega) (by omega)).mono ?_; rintro e w' ⟨rfl, rfl⟩))
    go_ret
    exact ⟨_, rfl, by rw [HPL.out]; exact HO3.out, HB3.out⟩
  · have HPL := hid (HPF.out.trans (show pieceL 11 q l d e = pL11' q l d e from rfl))
    clear HPF
    have b3 := pickF_in (x := q / 9) (n := 3) (by decide)
    obtain ⟨b30, b31⟩ := b3
    go_upto_region 32 with (first | (at_builtin; have _g := HB4; go_must (refine wpList_append_insRow rfl (.tmp 201) (.tmp 209) 38 rfl Tryz.underlying38 hi hz0 rfl hz1 hz2 rfl ((((((OwnIns.lit [(⟨1, 3, 0, 0, (1 + pickF (q / 9) 3)⟩ : Ins), (⟨21, 3, 0, 0, 0⟩ : Ins)] 2 W _ W.heap.size rfl rfl (bid W).size (by decide)).below HQ1.out).below HQ2.out).below HQ3.out).below (bnew (bid _) _)).below HQ4.out) rfl HSR4.out HSN4.out (Nat.le_of_ble_eq_true rfl) HB4.out.size ?_; intro v5 w5 hown hat hw; have HO5 := hid hown; have HB5 := hid (own_below HB4.out ((((((OwnIns.lit [(⟨1, 3, 0, 0, (1 + pickF (q / 9) 3)⟩ : Ins), (⟨21, 3, 0, 0, 0⟩ : Ins)] 2 W _ W.heap.size rfl rfl (bid W).size (by decide)).below HQ1.out).below HQ2.out).below HQ3.out).below (bnew (bid _) _)).below HQ4.out) HB4.out.size hw); clear hown hat hw)) | (go_at_call 47; have _g := HB3; go_must (refine (section_any l _ 3 3 [(ldI 2 d), (upI 2), (stI 2 d)] _ (InsRow.lit [(ldI 2 d), (upI 2), (stI 2 d)] 3 w3 _ _ rfl rfl) (by simp) (by decide)).mono ?_; rintro e w4 ⟨v4, rfl, ho, hb⟩; have HQ4 := hid hb; have HO4 := hid (ho.mono (bnew HB3.out _).size); have HB4 := hid (bthen (bnew HB3.out _) hb); obtain ⟨sa4, sc4, rfl, hsr, hsn⟩ := ho.shapeN 5 (by rfl); have HSR4 := hid hsr; have HSN4 := hid hsn; clear hsr hsn; clear ho hb)) | (go_at_call 50; ((with_reducible refine (st_any 2 d _).mono ?_); rintro e w3 ⟨rfl, hb⟩; have HQ3 := hid hb; have HB3 := hid (bthen HB2.out hb); clear hb)) | (go_at_call 49; ((with_reducible refine (up_any 2 _).mono ?_); rintro e w2 ⟨rfl, hb⟩; have HQ2 := hid hb; have HB2 := hid (bthen HB1.out hb); clear hb)) | (go_at_call 48; ((with_reducible refine (ld_any 2 d _).mono ?_); rintro e w1 ⟨rfl, hb⟩; have HQ1 := hid hb; have HB1 := hid (bthen (bnew (bid W) _) hb); clear hb)) | (go_at_call 9; refine (pick6_any _ _ _ (by omega) (by omega)).mono ?_; rintro e w' ⟨rfl, rfl⟩) | (go_at_call 46; refine (word_any _ _ _ (by omega) (by omega)).mono ?_; rintro e w' ⟨rfl, rfl⟩))
    go_wp2_with (first | (at_builtin; have _g := HB5; go_must (refine wpList_append_insRow rfl (.tmp 211) (.tmp 214) 38 rfl Tryz.underlying38 hi hz0 rfl hz1 hz2 rfl (HO5.out.below (bnew (bid _) _)) rfl (InsRow.lit [(⟨3, 3, 3, 1, 0⟩ : Ins), (⟨22, 0, 0, 0, 0⟩ : Ins)] 2 w5 _ _ rfl rfl) (by simp) (Nat.le_of_ble_eq_true rfl) (bnew HB5.out _).size ?_; intro v6 w6 hown hat hw; have HO6 := hid hown; have HB6 := hid (own_below (bnew HB5.out _) (HO5.out.below (bnew (bid _) _)) (bnew HB5.out _).size hw); clear hown hat hw)) | (go_at_call 9; refine (pick6_any _ _ _ (by omega) (by omega)).mono ?_; rintro e w' ⟨rfl, rfl⟩) | (go_at_call 46; refine (word_any _ _ _ (by omega) (by omega)).mono ?_; rintro e w' ⟨rfl, rfl⟩))
    go_ret
    exact ⟨_, rfl, by rw [HPL.out]; exact HO6.out, HB6.out⟩
  · have HPL := hid (HPF.out.trans (show pieceL 12 q l d e = pL12' q l d e from rfl))
    clear HPF
    have b3 := pickF_in (x := q / 9) (n := 3) (by decide)
    obtain ⟨b30, b31⟩ := b3
    go_wp2_with (first | (go_at_call 47; have _g := HB3; go_must (refine (section_any l _ 7 7 [(⟨1, 3, 0, 0, (1 + pickF (q / 9) 3)⟩ : Ins), (⟨21, 3, 0, 0, 0⟩ : Ins), (ldI 2 d), (upI 2), (stI 2 d), (⟨3, 3, 3, 1, 0⟩ : Ins), (⟨22, 0, 0, 0, 0⟩ : Ins)] _ (InsRow.lit [(⟨1, 3, 0, 0, (1 + pickF (q / 9) 3)⟩ : Ins), (⟨21, 3, 0, 0, 0⟩ : Ins), (ldI 2 d), (upI 2), (stI 2 d), (⟨3, 3, 3, 1, 0⟩ : Ins), (⟨22, 0, 0, 0, 0⟩ : Ins)] 7 w3 _ _ rfl rfl) (by simp) (by decide)).mono ?_; rintro e w4 ⟨v4, rfl, ho, hb⟩; have HQ4 := hid hb; have HO4 := hid (ho.mono (bnew HB3.out _).size); have HB4 := hid (bthen (bnew HB3.out _) hb); clear ho hb)) | (go_at_call 50; ((with_reducible refine (st_any 2 d _).mono ?_); rintro e w3 ⟨rfl, hb⟩; have HQ3 := hid hb; have HB3 := hid (bthen HB2.out hb); clear hb)) | (go_at_call 49; ((with_reducible refine (up_any 2 _).mono ?_); rintro e w2 ⟨rfl, hb⟩; have HQ2 := hid hb; have HB2 := hid (bthen HB1.out hb); clear hb)) | (go_at_call 48; ((with_reducible refine (ld_any 2 d _).mono ?_); rintro e w1 ⟨rfl, hb⟩; have HQ1 := hid hb; have HB1 := hid (bthen (bid W) hb); clear hb)) | (go_at_call 9; refine (pick6_any _ _ _ (by omega) (by omega)).mono ?_; rintro e w' ⟨rfl, rfl⟩) | (go_at_call 46; refine (word_any _ _ _ (by omega) (by omega)).mono ?_; rintro e w' ⟨rfl, rfl⟩))
    go_ret
    exact ⟨_, rfl, by rw [HPL.out]; exact HO4.out, HB4.out⟩

end Go.Proofs.YtblalejegjieaaaGreatDoor
