/-
  WordsMarks: its walk.
-/
import Derived.Test.YtjfinnjmcnjciaaWdM
import Derived.Test.YtjfinnjmcnjciaaWdA
namespace Go.Proofs.Ytjfinnjmcnjciaa
open Go.RowKit
attribute [local go_sem] Later.cell Later.frozen

/-- What there is in the law's world: the map, the watched places, what stands at them. -/
structure LkI (w : World) (q cb pb po n : Nat) (va vb : Int) (W : World) : Prop where
  map : MapAt 31 W q mp4
  row : IntRow W (some ⟨pb, po, none⟩) 2 [8, 9]
  cm : CM W cb n va vb
  qne : q ≠ cb
  pne : pb ≠ cb
  base : w.heap.size ≤ cb
  below : Below w.heap.size w W
section
variable {w W W2 : World} {q cb pb po n : Nat} {va vb : Int}
theorem LkI.later (h : LkI w q cb pb po n va vb W) (hb : Below W.heap.size W W2) : LkI w q cb pb po n va vb W2 :=
  ⟨h.map.below hb, h.row.below hb, h.cm.below hb, h.qne, h.pne, h.base, bthen h.below hb⟩
theorem LkI.grown (h : LkI w q cb pb po n va vb W) {n' : Nat} {va' vb' : Int} (hc : CM W2 cb n' va' vb') (g : W.grownBy W2 (some cb)) : LkI w q cb pb po n' va' vb' W2 := by
  have hw : Wrote (fun k => k = cb) W W2 := (Wrote.refl (fun k => k = cb) W).grown g (fun k e _ => (Option.some.inj e).symm)
  refine ⟨(hw.block q h.map.lt h.qne).trans h.map, h.row.kept hw (fun x e _ => ?_), hc, h.qne, h.pne, h.base, h.below.trans (hw.below h.below.size fun k hk e => ?_)⟩
  · obtain rfl := Option.some.inj e
    exact h.pne
  · have := h.base
    omega
theorem LkI.put8 (h : LkI w q cb pb po n va vb W) (hn : n ≤ 100) (v : Int) : ∃ W2, (Instr.mapUpdate 38 (.map (some cb)) (.int .i64 8) (.int .i64 v)).run Try.prog W = .ok () W2 ∧ LkI w q cb pb po (n + 1) v vb W2 := by
  obtain ⟨W2, r, c, g⟩ := h.cm.put8 hn v
  exact ⟨W2, r, h.grown c g⟩
theorem LkI.put9 (h : LkI w q cb pb po n va vb W) (hn : n ≤ 100) (v : Int) : ∃ W2, (Instr.mapUpdate 38 (.map (some cb)) (.int .i64 9) (.int .i64 v)).run Try.prog W = .ok () W2 ∧ LkI w q cb pb po (n + 1) va v W2 := by
  obtain ⟨W2, r, c, g⟩ := h.cm.put9 hn v
  exact ⟨W2, r, h.grown c g⟩
end
/-- What holds behind i rounds. -/
structure MkW (w : World) (q cb pb po i : Nat) (vw vr vc : Value) (W : World) : Prop where
  ex : ∃ (wr : Bool) (rd nw nr n : Nat), vw = .bool wr ∧ vr = .int .i64 (rd : Int) ∧ vc = .int .i64 ((nw + nr : Nat) : Int) ∧ n ≤ i ∧ MkI i wr rd nw nr ∧ LkI w q cb pb po n (v8 wr nw) (v9 rd nr) W
theorem wd_up {n : Nat} (h : n ≤ 1000) : wrap64 ((n : Int) + 1) = ((n + 1 : Nat) : Int) := by unfold wrap64; omega
theorem wd_dn {n : Nat} (h : n ≤ 1000) : wrap64 (((n + 1 : Nat) : Int) - 1) = (n : Int) := by unfold wrap64; omega
theorem wd_c1 (a b : Nat) : a + b + 1 = a + (b + 1) := by omega
theorem wd_c2 (a b : Nat) : a + b + 1 = a + 1 + b := by omega
theorem wd_upc {a b : Nat} (h : a + b ≤ 1000) : wrap64 ((a : Int) + (b : Int) + 1) = (a : Int) + (b : Int) + 1 := by unfold wrap64; omega
theorem wd_wn {n : Nat} (h : n ≤ 1000) : wrap64 (n : Int) = (n : Int) := by unfold wrap64; omega
theorem wd_up2 {r : Nat} (h : r + 1 ≤ 1000) : wrap64 ((r : Int) + 1 + 1) = (r : Int) + 1 + 1 := by unfold wrap64; omega
theorem wd_pre {rd : Nat} (h : ¬ rd = 0) : ∃ r, rd = r + 1 := ⟨rd - 1, by omega⟩
theorem wd_up60 {i : Nat} (h : i ≤ 60) : wrap64 ((i : Int) + 1) = ((i + 1 : Nat) : Int) := wd_up (by omega)
theorem wd_cb {a b : Nat} (h : ¬ a + b = 0) : (((a + b : Nat) : Int) == 0) = false := by rw [beq_eq_false_iff_ne]; omega
theorem wd_cbc {a b : Nat} (h : ¬ a + b = 0) : ((a : Int) + (b : Int) == 0) = false := by rw [beq_eq_false_iff_ne]; omega
theorem wd_r1 {a b : Nat} (h : a + b ≤ 1000) : Value.int .i64 (wrap64 ((a : Int) + (b : Int) + 1)) = .int .i64 ((a + (b + 1) : Nat) : Int) := by rw [wd_upc h]; congr 1 <;> omega
theorem wd_r2 {a b : Nat} : Value.int .i64 ((a : Int) + (b : Int) + 1) = .int .i64 ((a + (b + 1) : Nat) : Int) := by congr 1 <;> omega
theorem wd_r3 {a b : Nat} (h : a + b ≤ 1000) : Value.int .i64 (wrap64 ((a : Int) + (b : Int) + 1)) = .int .i64 ((a + 1 + b : Nat) : Int) := by rw [wd_upc h]; congr 1 <;> omega
theorem wd_r4 {a b : Nat} : Value.int .i64 ((a : Int) + (b : Int) + 1) = .int .i64 ((a + 1 + b : Nat) : Int) := by congr 1 <;> omega
theorem wd_pos {n : Nat} (h : 0 < n) : (0 : Int) < (n : Int) := by omega
theorem wd_npos {n : Nat} (h : n = 0) : ¬ (0 : Int) < (n : Int) := by omega
theorem wd_ne4 {n : Nat} (h : n < 4) : ((n : Int) == 4) = false := by rw [beq_eq_false_iff_ne]; omega

set_option maxHeartbeats 8000000 in
set_option maxRecDepth 100000 in
theorem wmarks_any (a0 : Option Addr) (len0 cap0 : Nat) (ls : List Int) (w : World) (hrow : IntRow w a0 len0 ls) :
    Calls Try.prog 9 #[.slice a0 len0 cap0] w fun e w' => e = .returned (.bool true) ∧ Below w.heap.size w w' := by
  have HT := hid (fun W => told17_any W)
  have HROW := hid hrow
  clear hrow
  by_cases h60 : 60 < len0
  · have n1 : (60 : Int) < (len0 : Int) := by omega
    go_enter Try.func9, Try.ntmps9
    go_wp2_with (go_at_call 41; go_must ((with_reducible refine (HT.out _).mono ?_); rintro e w4 ⟨rfl, hb⟩; have HC4 := hid hb; clear hb))
    go_ret
    exact ⟨rfl, HC4.out⟩
  · have n1 : ¬ (60 : Int) < (len0 : Int) := by omega
    have H60 := hid (show len0 ≤ 60 by omega)
    clear h60
    have HMp := hid (fun W => Map_any W)
    have HW := hid (fun W => Watched_any mp4 0 true false W)
    rw [show watL (mp4.at_ 3 0 4) true false = [8, 9] from by decide] at HW
    have HMT := hid (fun W => Mark_any mp4 0 true false W)
    have HMTL := hid (fun W => Mark_any mp4 0 true true W)
    have HMF := hid (fun W => Mark_any mp4 0 false false W)
    have HMFL := hid (fun W => Mark_any mp4 0 false true W)
    unfold MarkRet at HMT HMTL HMF HMFL
    rw [show markP (mp4.at_ 3 0 4) true = 9 by decide, show markN (mp4.at_ 3 0 4) true false = 65 by decide] at HMT
    rw [show markP (mp4.at_ 3 0 4) true = 9 by decide, show markN (mp4.at_ 3 0 4) true true = -1 by decide] at HMTL
    rw [show markP (mp4.at_ 3 0 4) false = 8 by decide, show markN (mp4.at_ 3 0 4) false false = 1 by decide] at HMF
    rw [show markP (mp4.at_ 3 0 4) false = 8 by decide, show markN (mp4.at_ 3 0 4) false true = 1 by decide] at HMFL
    have HH := hid (fun (p v : Int) W => Held_any mp4 0 p v W)
    rw [show mp4.at_ 3 0 4 = 8 by decide] at HH
    go_enter Try.func9, Try.ntmps9
    go_upto_region 4 with (go_at_call 44; go_must ((with_reducible refine (HMp.out _).mono ?_); rintro e w1 ⟨rfl, hb⟩; have HB1 := hid hb; clear hb))
    refine wp_rename (fun W => MapAt 31 W w1.heap.size mp4 ∧ Below w.heap.size w W) ⟨MapAt.new 31 w1 mp4, bnew HB1.out _⟩ ?_
    generalize w1.heap.size = q
    clear HB1 HMp
    rintro w1 ⟨hm, hb⟩
    have HM := hid hm
    have HB := hid hb
    clear hm hb
    obtain ⟨x0, x1, x2, x3, x4, xl⟩ := HM.out.facts
    go_upto_region 5 with (go_at_call 37; go_must ((with_reducible refine (HW.out _).mono ?_); rintro e w2 ⟨p, c, rfl, hr, hb⟩; have HC := hid hb; have HR := hid hr; clear hb hr))
    clear x0 x1 x2 x3 x4 xl HW
    simp only [List.length_cons, List.length_nil, Nat.zero_add, Nat.reduceAdd] at HR ⊢
    have hmm := @run_makeMap Try.prog
    go_upto_region 8 with fail
    clear hmm
    obtain ⟨pb, po, rfl, pl, _, _⟩ := wd_cells2 HR.out
    have HM2 := hid (HM.out.below HC.out)
    have HB2 := hid (bthen HB.out HC.out)
    have HPL := hid pl
    clear pl HM HB HC
    refine wp_rename (fun W => LkI w q w2.heap.size pb po 0 (v8 false 0) (v9 0 0) W) (by
      refine ⟨HM2.out.alloc _, HR.out.below (bnew (bid _) _), CM.made w2, ?_, ?_, HB2.out.size, bnew HB2.out _⟩
      · have := HM2.out.lt
        omega
      · have := HPL.out
        omega) ?_
    generalize w2.heap.size = cb
    clear HM2 HB2 HPL HR
    rintro W0 hk
    have HK := hid hk
    clear hk
    go_wp2_with fail
    go_loopw [6, 7, 8, 9] (fun vw vr vc vi W => ∃ i : Nat, i ≤ len0 ∧ vi = .int .i64 (i : Int) ∧ MkW w q cb pb po i vw vr vc W) (fun _ _ _ vi _ => len0 - (intOf vi).toNat)
    case atStart => exact ⟨0, Nat.zero_le _, rfl, ⟨false, 0, 0, 0, 0, rfl, rfl, rfl, Nat.le_refl _, MkI.zero, HK.out⟩⟩
    case round =>
      obtain ⟨i, hi, rfl, hm⟩ := hrel
      obtain ⟨wt, rd, nw, nr, n, rfl, rfl, rfl, hn, hmk, hlk⟩ := hm.ex
      have HMK := hid hmk
      have HL := hid hlk
      have HN := hid (show n ≤ 100 from Nat.le_trans hn (Nat.le_trans hi (Nat.le_trans H60.out (by decide))))
      have HNI := hid hn
      have HR4 := hid (show rd ≤ 1000 from Nat.le_trans hmk.rd4 (by decide))
      have HCA := hid (show nw + nr ≤ 1000 from Nat.le_trans hmk.nwi (Nat.le_trans hi (Nat.le_trans H60.out (by decide))))
      clear hm hmk hlk HK hn
      by_cases hlt : i < len0
      · have HI := hid hlt
        have HI60 := hid (show i ≤ 60 from Nat.le_trans (Nat.le_of_lt hlt) H60.out)
        obtain ⟨g, off, rfl, gl, hc⟩ := (HROW.out.below HL.out.below).at (Nat.lt_of_le_of_lt (Nat.zero_le _) hlt)
        have c0 := hc i hlt
        have m1 := wd_0 i
        have m2 := wd_in hlt
        have hi1 := wd_up60 HI60.out
        have HMI := hid (wd_mi hlt)
        generalize ls.getD i 0 = x at *
        clear hc hlt hi n1
        by_cases hr : (IntKind.u64.wrap x).tmod 2 = 0
        · have hrb : ((IntKind.u64.wrap x).tmod 2 == 0) = true := by simpa using hr
          cases wt with
          | true =>
            have r0 : rd = 0 := HMK.out.apart rfl
            subst r0
            as_aux_lemma =>
              go_wp2_with fail
              go_roundw
              case rel => exact ⟨i + 1, HI.out, by go_num, ⟨true, 0, nw, nr, n, rfl, rfl, rfl, Nat.le_succ_of_le HNI.out, HMK.out.skip, HL.out⟩⟩
              case measure => first | (rw [hi1]; exact HMI.out) | exact HMI.out
          | false =>
            by_cases r0 : rd = 0
            · subst r0
              as_aux_lemma =>
                go_upto_region 15 with fail
                obtain ⟨x0, x1, x2, x3, x4, xl⟩ := HL.out.map.facts
                go_upto_region 16 with (go_at_call 39; go_must ((with_reducible refine (HMT.out _).mono ?_); rintro e w4 ⟨rfl, hb⟩; have HL4 := hid (HL.out.later hb); clear hb))
                clear x0 x1 x2 x3 x4 xl HL c0
                have hlk := HL4.out.cm.look9
                have hv := v9_come HMK.out HI60.out
                have HMK2 := hid (HMK.out.come (by decide))
                have HT8 := hid (v8_held HMK2.out)
                have HT9 := hid (v9_held HMK2.out)
                have hcm := wd_upc HCA.out
                have HCM := hid hcm
                obtain ⟨w5, hp5, hl5⟩ := HL4.out.put9 HN.out (v9 1 (nr + 1))
                have HL5 := hid hl5
                clear hl5
                generalize v9 0 nr = va at *
                generalize hva : v8 false nw = va2 at *
                generalize hvb : v9 1 (nr + 1) = vb2 at *
                have HVA := hid hva
                have HVB := hid hvb
                clear hva hvb
                go_upto_region 25 with fail
                clear hlk hv hp5
                have HH8 := hid (fun W => HH.out 8 va2 W)
                have HH9 := hid (fun W => HH.out 9 vb2 W)
                rw [HT8.out] at HH8
                rw [HT9.out] at HH9
                obtain ⟨x0, x1, x2, x3, x4, xl⟩ := HL5.out.map.facts
                obtain ⟨_, _, e0, pl, z1, z2⟩ := wd_cells2 HL5.out.row
                cases e0
                have hk8 := fun (y : Later w5) => (HL5.out.later y.below).cm.look8
                have hk9 := fun (y : Later w5) => (HL5.out.later y.below).cm.look9
                refine wp_region_later (by kernel_rfl) (by kernel_rfl) ?_
                repeat (go_big_quiet_step ((go_at_call 42; first | (with_reducible exact later_call (HH8.out _)) | (with_reducible exact later_call (HH9.out _)))))
                refine wpQuiet_nil ?_
                rintro _ ⟨y, rfl⟩
                have HL6 := hid (HL5.out.later y.below)
                clear hk8 hk9 x0 x1 x2 x3 x4 xl pl z1 z2 HL5 HH8 HH9
                go_wp2_with fail
                go_roundw
                case rel => exact ⟨i + 1, HI.out, by go_num, ⟨false, 1, nw, (nr + 1), n + 1, rfl, by first | rfl | go_num, by first | rfl | go_num | exact wd_r1 HCA.out | exact wd_r2 | exact wd_r3 HCA.out | exact wd_r4, Nat.succ_le_succ HNI.out, HMK2.out, by rw [HVA.out, HVB.out]; exact HL6.out⟩⟩
                case measure => first | (rw [hi1]; exact HMI.out) | exact HMI.out
            · obtain ⟨r, rfl⟩ := wd_pre r0
              have rp := wd_pos (n := r + 1) (Nat.succ_pos _)
              by_cases r4 : r + 1 = 4
              · obtain rfl : r = 3 := Nat.succ.inj r4
                as_aux_lemma =>
                  go_upto_region 15 with fail
                  obtain ⟨x0, x1, x2, x3, x4, xl⟩ := HL.out.map.facts
                  go_upto_region 16 with (go_at_call 39; go_must ((with_reducible refine (HMTL.out _).mono ?_); rintro e w4 ⟨rfl, hb⟩; have HL4 := hid (HL.out.later hb); clear hb))
                  clear x0 x1 x2 x3 x4 xl HL c0
                  have hlk := HL4.out.cm.look9
                  have hv := v9_left HMK.out HI60.out
                  have HMK2 := hid (HMK.out.left)
                  have HT8 := hid (v8_held HMK2.out)
                  have HT9 := hid (v9_held HMK2.out)
                  have hrd := wd_dn (n := 3) (Nat.le_of_succ_le HR4.out)
                  have hrw := wd_wn (n := 3) (Nat.le_of_succ_le HR4.out)
                  obtain ⟨w5, hp5, hl5⟩ := HL4.out.put9 HN.out (v9 3 nr)
                  have HL5 := hid hl5
                  clear hl5
                  generalize v9 (3 + 1) nr = va at *
                  generalize hva : v8 false nw = va2 at *
                  generalize hvb : v9 3 nr = vb2 at *
                  have HVA := hid hva
                  have HVB := hid hvb
                  clear hva hvb
                  go_upto_region 25 with fail
                  clear hlk hv hp5
                  have HH8 := hid (fun W => HH.out 8 va2 W)
                  have HH9 := hid (fun W => HH.out 9 vb2 W)
                  rw [HT8.out] at HH8
                  rw [HT9.out] at HH9
                  obtain ⟨x0, x1, x2, x3, x4, xl⟩ := HL5.out.map.facts
                  obtain ⟨_, _, e0, pl, z1, z2⟩ := wd_cells2 HL5.out.row
                  cases e0
                  have hk8 := fun (y : Later w5) => (HL5.out.later y.below).cm.look8
                  have hk9 := fun (y : Later w5) => (HL5.out.later y.below).cm.look9
                  refine wp_region_later (by kernel_rfl) (by kernel_rfl) ?_
                  repeat (go_big_quiet_step ((go_at_call 42; first | (with_reducible exact later_call (HH8.out _)) | (with_reducible exact later_call (HH9.out _)))))
                  refine wpQuiet_nil ?_
                  rintro _ ⟨y, rfl⟩
                  have HL6 := hid (HL5.out.later y.below)
                  clear hk8 hk9 x0 x1 x2 x3 x4 xl pl z1 z2 HL5 HH8 HH9
                  go_wp2_with fail
                  go_roundw
                  case rel => exact ⟨i + 1, HI.out, by go_num, ⟨false, 3, nw, nr, n + 1, rfl, by first | rfl | go_num, by first | rfl | go_num | exact wd_r1 HCA.out | exact wd_r2 | exact wd_r3 HCA.out | exact wd_r4, Nat.succ_le_succ HNI.out, HMK2.out, by rw [HVA.out, HVB.out]; exact HL6.out⟩⟩
                  case measure => first | (rw [hi1]; exact HMI.out) | exact HMI.out
              · have r4b : ((r : Int) + 1 == 4) = false := wd_ne4 (n := r + 1) (Nat.lt_of_le_of_ne HMK.out.rd4 r4)
                by_cases hp : (IntKind.u64.wrap ((IntKind.u64.wrap x).tdiv 2)).tmod 2 = 0
                · have hpb : ((IntKind.u64.wrap ((IntKind.u64.wrap x).tdiv 2)).tmod 2 == 0) = true := by simpa using hp
                  by_cases rz : r = 0
                  · subst rz
                    as_aux_lemma =>
                      go_upto_region 15 with fail
                      obtain ⟨x0, x1, x2, x3, x4, xl⟩ := HL.out.map.facts
                      go_upto_region 16 with (go_at_call 39; go_must ((with_reducible refine (HMTL.out _).mono ?_); rintro e w4 ⟨rfl, hb⟩; have HL4 := hid (HL.out.later hb); clear hb))
                      clear x0 x1 x2 x3 x4 xl HL c0
                      have hlk := HL4.out.cm.look9
                      have hv := v9_left HMK.out HI60.out
                      have HMK2 := hid (HMK.out.left)
                      have HT8 := hid (v8_held HMK2.out)
                      have HT9 := hid (v9_held HMK2.out)
                      have hrd := wd_dn (n := 0) (Nat.le_of_succ_le HR4.out)
                      have hrw := wd_wn (n := 0) (Nat.le_of_succ_le HR4.out)
                      obtain ⟨w5, hp5, hl5⟩ := HL4.out.put9 HN.out (v9 0 nr)
                      have HL5 := hid hl5
                      clear hl5
                      generalize v9 (0 + 1) nr = va at *
                      generalize hva : v8 false nw = va2 at *
                      generalize hvb : v9 0 nr = vb2 at *
                      have HVA := hid hva
                      have HVB := hid hvb
                      clear hva hvb
                      go_upto_region 25 with fail
                      clear hlk hv hp5
                      have HH8 := hid (fun W => HH.out 8 va2 W)
                      have HH9 := hid (fun W => HH.out 9 vb2 W)
                      rw [HT8.out] at HH8
                      rw [HT9.out] at HH9
                      obtain ⟨x0, x1, x2, x3, x4, xl⟩ := HL5.out.map.facts
                      obtain ⟨_, _, e0, pl, z1, z2⟩ := wd_cells2 HL5.out.row
                      cases e0
                      have hk8 := fun (y : Later w5) => (HL5.out.later y.below).cm.look8
                      have hk9 := fun (y : Later w5) => (HL5.out.later y.below).cm.look9
                      refine wp_region_later (by kernel_rfl) (by kernel_rfl) ?_
                      repeat (go_big_quiet_step ((go_at_call 42; first | (with_reducible exact later_call (HH8.out _)) | (with_reducible exact later_call (HH9.out _)))))
                      refine wpQuiet_nil ?_
                      rintro _ ⟨y, rfl⟩
                      have HL6 := hid (HL5.out.later y.below)
                      clear hk8 hk9 x0 x1 x2 x3 x4 xl pl z1 z2 HL5 HH8 HH9
                      go_wp2_with fail
                      go_roundw
                      case rel => exact ⟨i + 1, HI.out, by go_num, ⟨false, 0, nw, nr, n + 1, rfl, by first | rfl | go_num, by first | rfl | go_num | exact wd_r1 HCA.out | exact wd_r2 | exact wd_r3 HCA.out | exact wd_r4, Nat.succ_le_succ HNI.out, HMK2.out, by rw [HVA.out, HVB.out]; exact HL6.out⟩⟩
                      case measure => first | (rw [hi1]; exact HMI.out) | exact HMI.out
                  · have rq := wd_pos (n := r) (Nat.pos_of_ne_zero rz)
                    as_aux_lemma =>
                      go_upto_region 15 with fail
                      obtain ⟨x0, x1, x2, x3, x4, xl⟩ := HL.out.map.facts
                      go_upto_region 16 with (go_at_call 39; go_must ((with_reducible refine (HMTL.out _).mono ?_); rintro e w4 ⟨rfl, hb⟩; have HL4 := hid (HL.out.later hb); clear hb))
                      clear x0 x1 x2 x3 x4 xl HL c0
                      have hlk := HL4.out.cm.look9
                      have hv := v9_left HMK.out HI60.out
                      have HMK2 := hid (HMK.out.left)
                      have HT8 := hid (v8_held HMK2.out)
                      have HT9 := hid (v9_held HMK2.out)
                      have hrd := wd_dn (n := r) (Nat.le_of_succ_le HR4.out)
                      have hrw := wd_wn (n := r) (Nat.le_of_succ_le HR4.out)
                      obtain ⟨w5, hp5, hl5⟩ := HL4.out.put9 HN.out (v9 r nr)
                      have HL5 := hid hl5
                      clear hl5
                      generalize v9 (r + 1) nr = va at *
                      generalize hva : v8 false nw = va2 at *
                      generalize hvb : v9 r nr = vb2 at *
                      have HVA := hid hva
                      have HVB := hid hvb
                      clear hva hvb
                      go_upto_region 25 with fail
                      clear hlk hv hp5
                      have HH8 := hid (fun W => HH.out 8 va2 W)
                      have HH9 := hid (fun W => HH.out 9 vb2 W)
                      rw [HT8.out] at HH8
                      rw [HT9.out] at HH9
                      obtain ⟨x0, x1, x2, x3, x4, xl⟩ := HL5.out.map.facts
                      obtain ⟨_, _, e0, pl, z1, z2⟩ := wd_cells2 HL5.out.row
                      cases e0
                      have hk8 := fun (y : Later w5) => (HL5.out.later y.below).cm.look8
                      have hk9 := fun (y : Later w5) => (HL5.out.later y.below).cm.look9
                      refine wp_region_later (by kernel_rfl) (by kernel_rfl) ?_
                      repeat (go_big_quiet_step ((go_at_call 42; first | (with_reducible exact later_call (HH8.out _)) | (with_reducible exact later_call (HH9.out _)))))
                      refine wpQuiet_nil ?_
                      rintro _ ⟨y, rfl⟩
                      have HL6 := hid (HL5.out.later y.below)
                      clear hk8 hk9 x0 x1 x2 x3 x4 xl pl z1 z2 HL5 HH8 HH9
                      go_wp2_with fail
                      go_roundw
                      case rel => exact ⟨i + 1, HI.out, by go_num, ⟨false, r, nw, nr, n + 1, rfl, by first | rfl | go_num, by first | rfl | go_num | exact wd_r1 HCA.out | exact wd_r2 | exact wd_r3 HCA.out | exact wd_r4, Nat.succ_le_succ HNI.out, HMK2.out, by rw [HVA.out, HVB.out]; exact HL6.out⟩⟩
                      case measure => first | (rw [hi1]; exact HMI.out) | exact HMI.out
                · have hpb : ((IntKind.u64.wrap ((IntKind.u64.wrap x).tdiv 2)).tmod 2 == 0) = false := by simpa using hp
                  as_aux_lemma =>
                    go_upto_region 15 with fail
                    obtain ⟨x0, x1, x2, x3, x4, xl⟩ := HL.out.map.facts
                    go_upto_region 16 with (go_at_call 39; go_must ((with_reducible refine (HMT.out _).mono ?_); rintro e w4 ⟨rfl, hb⟩; have HL4 := hid (HL.out.later hb); clear hb))
                    clear x0 x1 x2 x3 x4 xl HL c0
                    have hlk := HL4.out.cm.look9
                    have hv := v9_come HMK.out HI60.out
                    have HMK2 := hid (HMK.out.come (Nat.lt_of_le_of_ne HMK.out.rd4 r4))
                    have HT8 := hid (v8_held HMK2.out)
                    have HT9 := hid (v9_held HMK2.out)
                    have hcm := wd_upc HCA.out
                    have HCM := hid hcm
                    have hrd : wrap64 ((r : Int) + 1 + 1) = (r : Int) + 1 + 1 := wd_up2 HR4.out
                    have rq : (0 : Int) < (r : Int) + 1 + 1 := wd_pos (n := r + 1 + 1) (Nat.succ_pos _)
                    obtain ⟨w5, hp5, hl5⟩ := HL4.out.put9 HN.out (v9 (r + 1 + 1) (nr + 1))
                    have HL5 := hid hl5
                    clear hl5
                    generalize v9 (r + 1) nr = va at *
                    generalize hva : v8 false nw = va2 at *
                    generalize hvb : v9 (r + 1 + 1) (nr + 1) = vb2 at *
                    have HVA := hid hva
                    have HVB := hid hvb
                    clear hva hvb
                    go_upto_region 25 with fail
                    clear hlk hv hp5
                    have HH8 := hid (fun W => HH.out 8 va2 W)
                    have HH9 := hid (fun W => HH.out 9 vb2 W)
                    rw [HT8.out] at HH8
                    rw [HT9.out] at HH9
                    obtain ⟨x0, x1, x2, x3, x4, xl⟩ := HL5.out.map.facts
                    obtain ⟨_, _, e0, pl, z1, z2⟩ := wd_cells2 HL5.out.row
                    cases e0
                    have hk8 := fun (y : Later w5) => (HL5.out.later y.below).cm.look8
                    have hk9 := fun (y : Later w5) => (HL5.out.later y.below).cm.look9
                    refine wp_region_later (by kernel_rfl) (by kernel_rfl) ?_
                    repeat (go_big_quiet_step ((go_at_call 42; first | (with_reducible exact later_call (HH8.out _)) | (with_reducible exact later_call (HH9.out _)))))
                    refine wpQuiet_nil ?_
                    rintro _ ⟨y, rfl⟩
                    have HL6 := hid (HL5.out.later y.below)
                    clear hk8 hk9 x0 x1 x2 x3 x4 xl pl z1 z2 HL5 HH8 HH9
                    go_wp2_with fail
                    go_roundw
                    case rel => exact ⟨i + 1, HI.out, by go_num, ⟨false, (r + 1 + 1), nw, (nr + 1), n + 1, rfl, by first | rfl | go_num, by first | rfl | go_num | exact wd_r1 HCA.out | exact wd_r2 | exact wd_r3 HCA.out | exact wd_r4, Nat.succ_le_succ HNI.out, HMK2.out, by rw [HVA.out, HVB.out]; exact HL6.out⟩⟩
                    case measure => first | (rw [hi1]; exact HMI.out) | exact HMI.out
        · have hrb : ((IntKind.u64.wrap x).tmod 2 == 0) = false := by simpa using hr
          cases wt with
          | true =>
            have r0 : rd = 0 := HMK.out.apart rfl
            subst r0
            as_aux_lemma =>
              go_upto_region 15 with fail
              obtain ⟨x0, x1, x2, x3, x4, xl⟩ := HL.out.map.facts
              go_upto_region 16 with (go_at_call 39; go_must ((with_reducible refine (HMFL.out _).mono ?_); rintro e w4 ⟨rfl, hb⟩; have HL4 := hid (HL.out.later hb); clear hb))
              clear x0 x1 x2 x3 x4 xl HL c0
              have hlk := HL4.out.cm.look8
              have hv := v8_left HMK.out HI60.out
              have HMK2 := hid (HMK.out.leave)
              have HT8 := hid (v8_held HMK2.out)
              have HT9 := hid (v9_held HMK2.out)
              skip
              obtain ⟨w5, hp5, hl5⟩ := HL4.out.put8 HN.out (v8 false nw)
              have HL5 := hid hl5
              clear hl5
              generalize v8 true nw = va at *
              generalize hva : v8 false nw = va2 at *
              generalize hvb : v9 0 nr = vb2 at *
              have HVA := hid hva
              have HVB := hid hvb
              clear hva hvb
              go_upto_region 25 with fail
              clear hlk hv hp5
              have HH8 := hid (fun W => HH.out 8 va2 W)
              have HH9 := hid (fun W => HH.out 9 vb2 W)
              rw [HT8.out] at HH8
              rw [HT9.out] at HH9
              obtain ⟨x0, x1, x2, x3, x4, xl⟩ := HL5.out.map.facts
              obtain ⟨_, _, e0, pl, z1, z2⟩ := wd_cells2 HL5.out.row
              cases e0
              have hk8 := fun (y : Later w5) => (HL5.out.later y.below).cm.look8
              have hk9 := fun (y : Later w5) => (HL5.out.later y.below).cm.look9
              refine wp_region_later (by kernel_rfl) (by kernel_rfl) ?_
              repeat (go_big_quiet_step ((go_at_call 42; first | (with_reducible exact later_call (HH8.out _)) | (with_reducible exact later_call (HH9.out _)))))
              refine wpQuiet_nil ?_
              rintro _ ⟨y, rfl⟩
              have HL6 := hid (HL5.out.later y.below)
              clear hk8 hk9 x0 x1 x2 x3 x4 xl pl z1 z2 HL5 HH8 HH9
              go_wp2_with fail
              go_roundw
              case rel => exact ⟨i + 1, HI.out, by go_num, ⟨false, 0, nw, nr, n + 1, rfl, by first | rfl | go_num, by first | rfl | go_num | exact wd_r1 HCA.out | exact wd_r2 | exact wd_r3 HCA.out | exact wd_r4, Nat.succ_le_succ HNI.out, HMK2.out, by rw [HVA.out, HVB.out]; exact HL6.out⟩⟩
              case measure => first | (rw [hi1]; exact HMI.out) | exact HMI.out
          | false =>
            by_cases r0 : rd = 0
            · subst r0
              as_aux_lemma =>
                go_upto_region 15 with fail
                obtain ⟨x0, x1, x2, x3, x4, xl⟩ := HL.out.map.facts
                go_upto_region 16 with (go_at_call 39; go_must ((with_reducible refine (HMF.out _).mono ?_); rintro e w4 ⟨rfl, hb⟩; have HL4 := hid (HL.out.later hb); clear hb))
                clear x0 x1 x2 x3 x4 xl HL c0
                have hlk := HL4.out.cm.look8
                have hv := v8_come HMK.out HI60.out
                have HMK2 := hid (HMK.out.enter)
                have HT8 := hid (v8_held HMK2.out)
                have HT9 := hid (v9_held HMK2.out)
                have hcm := wd_upc HCA.out
                have HCM := hid hcm
                obtain ⟨w5, hp5, hl5⟩ := HL4.out.put8 HN.out (v8 true (nw + 1))
                have HL5 := hid hl5
                clear hl5
                generalize v8 false nw = va at *
                generalize hva : v8 true (nw + 1) = va2 at *
                generalize hvb : v9 0 nr = vb2 at *
                have HVA := hid hva
                have HVB := hid hvb
                clear hva hvb
                go_upto_region 25 with fail
                clear hlk hv hp5
                have HH8 := hid (fun W => HH.out 8 va2 W)
                have HH9 := hid (fun W => HH.out 9 vb2 W)
                rw [HT8.out] at HH8
                rw [HT9.out] at HH9
                obtain ⟨x0, x1, x2, x3, x4, xl⟩ := HL5.out.map.facts
                obtain ⟨_, _, e0, pl, z1, z2⟩ := wd_cells2 HL5.out.row
                cases e0
                have hk8 := fun (y : Later w5) => (HL5.out.later y.below).cm.look8
                have hk9 := fun (y : Later w5) => (HL5.out.later y.below).cm.look9
                refine wp_region_later (by kernel_rfl) (by kernel_rfl) ?_
                repeat (go_big_quiet_step ((go_at_call 42; first | (with_reducible exact later_call (HH8.out _)) | (with_reducible exact later_call (HH9.out _)))))
                refine wpQuiet_nil ?_
                rintro _ ⟨y, rfl⟩
                have HL6 := hid (HL5.out.later y.below)
                clear hk8 hk9 x0 x1 x2 x3 x4 xl pl z1 z2 HL5 HH8 HH9
                go_wp2_with fail
                go_roundw
                case rel => exact ⟨i + 1, HI.out, by go_num, ⟨true, 0, (nw + 1), nr, n + 1, rfl, by first | rfl | go_num, by first | rfl | go_num | exact wd_r1 HCA.out | exact wd_r2 | exact wd_r3 HCA.out | exact wd_r4, Nat.succ_le_succ HNI.out, HMK2.out, by rw [HVA.out, HVB.out]; exact HL6.out⟩⟩
                case measure => first | (rw [hi1]; exact HMI.out) | exact HMI.out
            · have rp := wd_pos (n := rd) (Nat.pos_of_ne_zero r0)
              as_aux_lemma =>
                go_wp2_with fail
                go_roundw
                case rel => exact ⟨i + 1, HI.out, by go_num, ⟨false, rd, nw, nr, n, rfl, rfl, rfl, Nat.le_succ_of_le HNI.out, HMK.out.skip, HL.out⟩⟩
                case measure => first | (rw [hi1]; exact HMI.out) | exact HMI.out
      · have m2 := wd_nin hlt
        as_aux_lemma =>
          have HZ := hid (v_zero HMK.out)
          generalize v8 wt nw = va at *
          generalize v9 rd nr = vb at *
          obtain ⟨_, _, e0, pl, z1, z2⟩ := wd_cells2 HL.out.row
          cases e0
          clear hlt hi HROW HMT HMTL HMF HMFL HH
          by_cases h0 : nw + nr = 0
          · obtain ⟨rfl, rfl⟩ := HZ.out.2 h0
            rw [h0]
            go_wp2_with (go_at_call 41; go_must ((with_reducible refine (HT.out _).mono ?_); rintro e w4 ⟨rfl, hb⟩; have HL4 := hid (HL.out.later hb); clear hb pl z1 z2; obtain ⟨_, _, e0, pl, z1, z2⟩ := wd_cells2 HL4.out.row; cases e0; have hk8 := HL4.out.cm.look8; have hk9 := HL4.out.cm.look9))
            go_ret
            exact ⟨rfl, HL4.out.below⟩
          · have hcb := wd_cb h0
            have hcc := wd_cbc h0
            by_cases hva : va = 0
            · have hvb : ¬ vb = 0 := fun h => h0 (HZ.out.1 ⟨hva, h⟩)
              have hvbb : (vb == 0) = false := by simpa using hvb
              subst hva
              generalize ((nw + nr : Nat) : Int) = cc at *
              go_wp2_with (go_at_call 41; go_must ((with_reducible refine (HT.out _).mono ?_); rintro e w4 ⟨rfl, hb⟩; have HL4 := hid (HL.out.later hb); clear hb pl z1 z2; obtain ⟨_, _, e0, pl, z1, z2⟩ := wd_cells2 HL4.out.row; cases e0; have hk8 := HL4.out.cm.look8; have hk9 := HL4.out.cm.look9))
              go_ret
              exact ⟨rfl, HL4.out.below⟩
            · have hvab : (va == 0) = false := by simpa using hva
              generalize ((nw + nr : Nat) : Int) = cc at *
              go_wp2_with (go_at_call 41; go_must ((with_reducible refine (HT.out _).mono ?_); rintro e w4 ⟨rfl, hb⟩; have HL4 := hid (HL.out.later hb); clear hb pl z1 z2; obtain ⟨_, _, e0, pl, z1, z2⟩ := wd_cells2 HL4.out.row; cases e0; have hk8 := HL4.out.cm.look8; have hk9 := HL4.out.cm.look9))
              go_ret
              exact ⟨rfl, HL4.out.below⟩

end Go.Proofs.Ytjfinnjmcnjciaa
