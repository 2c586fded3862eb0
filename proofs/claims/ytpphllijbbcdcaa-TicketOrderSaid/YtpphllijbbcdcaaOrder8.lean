/-
  TicketOrder: who comes first has it first.
-/
import Derived.Test.YtpphllijbbcdcaaOrd8
namespace Go.Proofs.Ytpphllijbbcdcaa
open Go.RowKit
attribute [local go_sem] Later.cell Later.frozen

def lenV : Value → Nat
  | .slice _ n _ => n
  | _ => 0
/-- What the loop keeps in which all draw their numbers. -/
def Rel1 (w : World) (q b : Nat) (vw : Value) (qh : Nat) (vf vc x : Value) (W : World) : Prop :=
  ∃ (fs cs : List Nat) (s : MS) (hs : Nat → HD) (u : Int), FInv cs fs s hs ∧ x = .int .u64 u ∧ 0 ≤ u ∧ OrAt w q b vw qh s hs vf vc (.slice none 0 0) fs cs [] W
/-- What the loop over the picks keeps. -/
def Rel2 (w : World) (q b : Nat) (vw : Value) (qh : Nat) (vf vc : Value) (fs cs : List Nat) (n : Nat) (vd i : Value) (W : World) : Prop :=
  ∃ (j p : Nat) (s : MS) (hs : Nat → HD), j ≤ n + 40 ∧ i = .int .i64 j ∧ OInv cs p s hs ∧ (j ≤ n ∨ far cs p j + (j - n) ≤ 40) ∧ OrAt w q b vw qh s hs vf vc vd fs cs (cs.take ((p + 1) / 2)) W

theorem pick_in (u : Int) (L : Nat) (h0 : 0 ≤ u) (h1 : 0 < L) (h2 : L ≤ 4) : ∃ k : Nat, k < L ∧ wrap64 (u % (L : Int)) = (k : Int) := by
  have e1 := Int.emod_nonneg u (show (L : Int) ≠ 0 by omega)
  have e2 := Int.emod_lt_of_pos u (show (0 : Int) < (L : Int) by omega)
  rw [wrap_small (by omega) (by omega)]
  exact ⟨(u % (L : Int)).toNat, by omega, by omega⟩
theorem u64_at_least (n : Int) : 0 ≤ IntKind.u64.wrap n := by
  rw [IntKind.wrap_u64]
  omega

theorem pick4 (z : Int) : ∃ k : Nat, k < 4 ∧ wrap64 ((IntKind.u64.wrap z).tmod 4) = (k : Int) := by
  have h := u64_at_least z
  generalize IntKind.u64.wrap z = u at *
  have e : u.tmod 4 = u % 4 := Int.tmod_eq_emod_of_nonneg h
  rw [e, wrap_small (by omega) (by omega)]
  exact ⟨(u % 4).toNat, by omega, by omega⟩
theorem pot {cs : List Nat} {p p' n j : Nat} (h : j ≤ n ∨ far cs p j + (j - n) ≤ 40) (hj : j < n + 40) (hs : n ≤ j → far cs p' (j + 1) + 1 ≤ far cs p j ∨ 8 ≤ p') : j + 1 ≤ n ∨ far cs p' (j + 1) + (j + 1 - n) ≤ 40 := by
  by_cases hlt : j < n
  · exact .inl hlt
  · right
    have h36 := far_le cs p j
    rcases hs (by omega) with h1 | h1
    · rcases h with h | h <;> omega
    · have : far cs p' (j + 1) = 0 := by unfold far; rw [if_pos h1]
      omega
theorem take_next {cs : List Nat} {m : Nat} (h : m < cs.length) : cs.take (m + 1) = cs.take m ++ [cs.getD m 0] := by
  rw [List.take_add_one, List.getElem?_eq_getElem h, List.getD_eq_getElem?_getD, List.getElem?_eq_getElem h]
  rfl
theorem OInv.others {cs : List Nat} {p : Nat} {s : MS} {hs : Nat → HD} (h : OInv cs p s hs) {i j : Nat} (hi : i < 4) (hne : i ≠ p / 2) (hj : j % 4 = cs.getD i 0) : far cs p (j + 1) + 1 ≤ far cs p j ∨ 8 ≤ p := by
  by_cases h8 : 8 ≤ p
  · exact .inr h8
  · exact far_by (h.lt (by omega)) j fun e => hne (h.inj hi (by omega) (by rw [← hj, e]))

theorem OrAt.reads {w : World} {q b : Nat} {vw : Value} {qh : Nat} {hs : Nat → HD} {vf vc vd : Value} {fs cs ds : List Nat} {k : Nat} {s : MS} {W : World} (h : OrAt w q b vw qh s hs vf vc vd fs cs ds W) (hk : k < 4) :
    W.cell? ⟨q, 0, none⟩ = some (.int .i64 2) ∧ W.cell? ⟨q, 1, none⟩ = some (.int .i64 2) ∧ W.cell? ⟨q, 2, none⟩ = some (.int .i64 4) ∧ W.cell? ⟨q, 3, none⟩ = some (.int .i64 0) ∧ W.cell? ⟨q, 4, none⟩ = some (.int .i64 2) ∧ W.cell? ⟨qh, k * 5, none⟩ = some (.int .i64 (hs k).t) ∧ W.cell? ⟨qh, k * 5 + 1, none⟩ = some (.int .i64 (hs k).l) ∧ W.cell? ⟨qh, k * 5 + 2, none⟩ = some (.int .i64 (hs k).s) ∧ W.cell? ⟨qh, k * 5 + 3, none⟩ = some (.bool (hs k).rd) ∧ W.cell? ⟨qh, k * 5 + 4, none⟩ = some (.int .i64 (hs k).x) := by
  obtain ⟨m0, m1, m2, m3, m4, _⟩ := h.map.facts
  obtain ⟨e0, e1, e2, e3, e4, _⟩ := h.hh.facts hk
  exact ⟨m0, m1, m2, m3, m4, e0, e1, e2, e3, e4⟩
theorem OrAt.satReads {w : World} {q b : Nat} {vw : Value} {qh : Nat} {hs : Nat → HD} {vf vc vd : Value} {fs cs ds : List Nat} {k : Nat} (x : Sat (fun W => ∃ s, OrAt w q b vw qh s hs vf vc vd fs cs ds W)) (hk : k < 4) :
    x.v.cell? ⟨q, 0, none⟩ = some (.int .i64 2) ∧ x.v.cell? ⟨q, 1, none⟩ = some (.int .i64 2) ∧ x.v.cell? ⟨q, 2, none⟩ = some (.int .i64 4) ∧ x.v.cell? ⟨q, 3, none⟩ = some (.int .i64 0) ∧ x.v.cell? ⟨q, 4, none⟩ = some (.int .i64 2) ∧ x.v.cell? ⟨qh, k * 5, none⟩ = some (.int .i64 (hs k).t) ∧ x.v.cell? ⟨qh, k * 5 + 1, none⟩ = some (.int .i64 (hs k).l) ∧ x.v.cell? ⟨qh, k * 5 + 2, none⟩ = some (.int .i64 (hs k).s) ∧ x.v.cell? ⟨qh, k * 5 + 3, none⟩ = some (.bool (hs k).rd) ∧ x.v.cell? ⟨qh, k * 5 + 4, none⟩ = some (.int .i64 (hs k).x) := by
  obtain ⟨v, p⟩ := x
  obtain ⟨s1, h⟩ := p
  exact h.reads hk
/-- The stages of a step: the call (6), the store (8). -/
def OrdD (w : World) (q b : Nat) (vw : Value) (qh : Nat) (s s' : MS) (hs : Nat → HD) (k : Nat) (g : HD) (vf vc vd : Value) (fs cs ds : List Nat) (L : Nat → Bool) (W : World) : Prop :=
  OrAt w q b vw qh (bif L 6 then s' else s) (bif L 8 then upd hs k g else hs) vf vc vd fs cs ds W
section
variable {w : World} {q b : Nat} {vw : Value} {qh : Nat} {s s' : MS} {hs : Nat → HD} {k : Nat} {g : HD} {vf vc vd : Value} {fs cs ds : List Nat} {L : Nat → Bool} {W : World}
theorem OrdD.start (hL : ∀ j, L j = false) (h : OrAt w q b vw qh s hs vf vc vd fs cs ds W) : OrdD w q b vw qh s s' hs k g vf vc vd fs cs ds L W.drew := by
  unfold OrdD; rw [hL 6, hL 8]; exact h.later (bdrew (bid W))
theorem OrdD.reads (h : OrdD w q b vw qh s s' hs k g vf vc vd fs cs ds L W) (h8 : L 8 = false) : ∃ s, OrAt w q b vw qh s hs vf vc vd fs cs ds W := by
  unfold OrdD at h; rw [h8] at h; exact ⟨_, h⟩
theorem OrdD.at6 (h : OrdD w q b vw qh s s' hs k g vf vc vd fs cs ds L W) (hL : L 6 = false) : OrAt w q b vw qh s (bif L 8 then upd hs k g else hs) vf vc vd fs cs ds W := by
  unfold OrdD at h; rw [hL] at h; exact h
theorem OrdD.at8 (h : OrdD w q b vw qh s s' hs k g vf vc vd fs cs ds L W) (hL : L 8 = false) : OrAt w q b vw qh (bif L 6 then s' else s) hs vf vc vd fs cs ds W := by
  unfold OrdD at h; rw [hL] at h; exact h
theorem OrdD.end_ (hall : ∀ j, j < 9 → L j = true) (h : OrdD w q b vw qh s s' hs k g vf vc vd fs cs ds L W) : OrAt w q b vw qh s' (upd hs k g) vf vc vd fs cs ds W := by
  unfold OrdD at h; rw [hall 6 (by decide), hall 8 (by decide)] at h; exact h
end

set_option maxRecDepth 100000 in
set_option maxHeartbeats 8000000 in
theorem order_any (x0 : Int) (a1 : Option Addr) (len1 cap1 : Nat) (zs1 : List Int) (w : World) (hr1 : IntRow w a1 len1 zs1) (hl1 : len1 ≤ maxLen) :
    Calls Try.prog 5 #[.int .i64 x0, .slice a1 len1 cap1] w fun e w' => e = .returned (.bool true) ∧ Below w.heap.size w w' := by
  unfold maxLen at hl1
  have HR1 := hid hr1
  clear hr1
  by_cases hlen : 200 < len1
  · go_enter Try.func5, Try.ntmps5
    go_wp2_with (go_at_call 21; (with_reducible refine (told8_any _).mono ?_); rintro e w1 ⟨rfl, hb1⟩)
    go_ret
    exact ⟨rfl, hb1⟩
  have HBO := hid (fun (x : World) => (show Calls Try.prog 8 #[mp4.v] x (MadeBoth 48 x) from by have := Both_any mp4 x mp4_ok; rwa [mp4_size] at this))
  go_enter Try.func5, Try.ntmps5
  go_upto_region 4 with (go_at_call 7; (with_reducible refine (Map_any _).mono ?_); rintro e w1 ⟨rfl, hb1⟩; have HB1 := hid hb1; clear hb1)
  refine wp_rename (fun W => MapAt 26 W w1.heap.size mp4 ∧ Below w.heap.size w W) ⟨MapAt.new _ w1 mp4, bnew HB1.out _⟩ ?_
  have hq0 := HB1.out.size
  generalize w1.heap.size = q at hq0 ⊢
  clear HB1
  rintro W ⟨hk, hb⟩
  have HK := hid hk
  have HB := hid hb
  obtain ⟨m0, m1, m2, m3, m4, _⟩ := hk.facts
  clear hk hb
  go_upto_region 8 with (go_at_call 8; (with_reducible refine (HBO.out _).mono ?_); rintro e w2 ⟨b, vw, c, vr, rfl, hp, hb2⟩; have HP := hid hp; have HB2 := hid hb2; clear hp hb2)
  go_upto_region 10 with fail
  have hu0 := u64_at_least x0
  refine wp_rename (fun W' => OrAt w q b vw (w2.heap.size + 1) (MS.new (zrow 48)) (fun _ => h0) (.slice (some ⟨w2.heap.size, 0, none⟩) 4 4) (.slice none 0 0) (.slice none 0 0) [0, 1, 2, 3] [] [] W') (by
    have l1 := IL.lit w2 w2.heap.size [0, 1, 2, 3] #[.int .i64 0, .int .i64 1, .int .i64 2, .int .i64 3] rfl 4 rfl (Nat.le_refl _) (by unfold maxLen; decide)
    have h2 := FourAt.new (w2.alloc (.cells #[.int .i64 0, .int .i64 1, .int .i64 2, .int .i64 3] 3))
    rw [size_alloc1] at h2
    have hbb := bnew (bnew (bid w2) (.cells #[.int .i64 0, .int .i64 1, .int .i64 2, .int .i64 3] 3)) (.cells four0 54)
    have hq1 := HK.out.lt
    have hq2 := HB2.out.size
    have hq3 := HB.out.size
    have hy := HP.out.mem.hold
    refine ⟨(HK.out.below HB2.out).below hbb, (HP.out.mem.mono hq3).kept (Wrote.of_below hbb (fun _ => False)) (fun _ _ h => h), h2, (l1.kept (Wrote.of_below (bnew (bid _) _) (fun _ => False)) (fun _ _ h => h)).mono (by omega), IL.nil _ _, IL.nil _ _, ⟨hq0, by omega⟩, ?_, bthen (bthen HB.out HB2.out) hbb⟩
    refine ⟨fun j => if j = w2.heap.size then 3 else if j = w2.heap.size + 1 then 2 else if j = q then 0 else 1, ?_, fun j hj => ?_, ?_, fun j hj => ?_, fun j hj => (by cases hj), fun j hj => (by cases hj)⟩
    · show (if q = w2.heap.size then 3 else if q = w2.heap.size + 1 then 2 else if q = q then 0 else 1) = 0
      rw [if_neg (by omega), if_neg (by omega), if_pos rfl]
    · show (if j = w2.heap.size then 3 else if j = w2.heap.size + 1 then 2 else if j = q then 0 else 1) = 1
      have h1 := hy j hj
      rw [if_neg (by omega), if_neg (by omega), if_neg (fun e => by subst e; exact HP.out.mem.old _ hq1 hj)]
    · show (if w2.heap.size + 1 = w2.heap.size then 3 else if w2.heap.size + 1 = w2.heap.size + 1 then 2 else if w2.heap.size + 1 = q then 0 else 1) = 2
      rw [if_neg (by omega), if_pos rfl]
    · cases hj
      show (if w2.heap.size = w2.heap.size then 3 else _) = 3
      rw [if_pos rfl]) ?_
  generalize w2.heap.size = gf
  generalize gf + 1 = qh
  clear HP HB2 HB HK HBO m0 m1 m2 m3 m4 hq0
  intro W3 hk
  have HK := hid hk
  clear hk
  go_wp2_with fail
  go_loopw [8, 9, 12] (fun s8 s9 s12 W => Rel1 w q b vw qh s8 s9 s12 W) (fun s8 _ _ _ => lenV s8)
  case atStart => exact ⟨_, _, _, _, _, FInv.start _, rfl, hu0, HK.out⟩
  case round =>
    clear HK hu0
    obtain ⟨fs, cs, s, hs, u, hF, rfl, hu, hO⟩ := hrel
    obtain ⟨fa, fc, rfl, hfa, hm1, hm2, hm3⟩ := hO.free.form
    have HF := hid hF
    have HK := hid hO
    have hcnt := hF.count
    clear hF hO
    unfold maxLen at hm1 hm2
    by_cases hpos : 0 < fs.length
    · obtain ⟨g, rfl⟩ := hfa hpos
      clear hfa
      have p1 : (0 : Int) < (fs.length : Int) := by omega
      have p2 : (fs.length : Int) ≤ 4 := by omega
      generalize hL : fs.length = L at *
      have HL := hid hL
      clear hL
      go_upto_region 14 with fail
      obtain ⟨k, hk, hkk⟩ := pick_in u L hu hpos (by omega)
      rw [hkk]
      clear hkk
      obtain ⟨u', hu', hu0'⟩ : ∃ u', IntKind.u64.wrap (u.tdiv 7) = u' ∧ 0 ≤ u' := ⟨_, rfl, u64_at_least _⟩
      rw [hu']
      clear hu'
      have HCF := hid (fun (W' : World) (hb : Below wr.heap.size wr W') (j : Nat) (hj : j < L) => ((HK.out.later hb).free.at (k := j) (by rw [HL.out]; exact hj)).1)
      have c0 := HCF.out wr (bid _) k hk
      generalize ht : fs.getD k 0 = t at c0
      have HT := hid ht
      have htl : t < 4 := by rw [← ht]; exact HF.out.mem (List.mem_append_right _ (getD_mem (by rw [HL.out]; exact hk)))
      clear ht
      have k1 : (0 : Int) ≤ (k : Int) := by omega
      have k2 : (k : Int) < (L : Int) := by omega
      have k3 : k + 1 ≤ L := by omega
      go_upto_region 15 with fail
      have hlt1 : (fs.take k).length = k := by rw [List.length_take, HL.out]; omega
      have hld1 : (fs.drop (k + 1)).length = L - (k + 1) := by rw [List.length_drop, HL.out]
      have hnt : ∀ j, j < k → (fs.take k).getD j 0 = fs.getD j 0 := fun j hj => by rw [List.getD_eq_getElem?_getD, List.getD_eq_getElem?_getD, List.getElem?_take_of_lt hj]
      have hnd : ∀ j, (fs.drop (k + 1)).getD j 0 = fs.getD (k + 1 + j) 0 := fun j => by rw [List.getD_eq_getElem?_getD, List.getD_eq_getElem?_getD, List.getElem?_drop]
      have HLS := hid (And.intro hlt1 (And.intro hld1 (And.intro hnt hnd)))
      have HIL0 := hid (show IL ((wr.alloc (.cells #[] 3)).drew) wr.heap.size (.slice (some ⟨wr.heap.size, 0, none⟩) 0 0) [] from (IL.lit wr wr.heap.size [] #[] rfl 0 rfl (Nat.le_refl _) (Nat.zero_le _)).kept (Wrote.of_below (bdrew (bid _)) (fun _ => False)) (fun _ _ h => h))
      have hA1 : ∀ j, j < k → ((wr.alloc (.cells #[] 3)).drew).cell? (Addr.add ⟨g, 0, none⟩ j) = some (.int .i64 ((fs.take k).getD j 0 : Nat)) := fun j hj => by
        rw [hnt j hj, add_at, Nat.zero_add]
        exact HCF.out _ (bdrew (bnew (bid wr) (.cells #[] 3))) j (by omega)
      have HA1 := hid hA1
      obtain ⟨k', hk'⟩ : ∃ k', k' = k + 1 := ⟨_, rfl⟩
      have q2 : IntKind.i64.wrap ((k : Int) + 1) = (k' : Int) := by rw [IntKind.wrap_i64]; omega
      obtain ⟨ad2, hs2, hA2⟩ : ∃ ad2 : Addr, (∀ W, (Instr.slice 33 (.slice (some ⟨g, 0, none⟩) L fc) (some (.int .i64 (k' : Int))) none none).run Try.prog W = .ok (.slice (some ad2) (L - k') (fc - k')) W) ∧ (∀ W', Below wr.heap.size wr W' → ∀ j, j < L - k' → W'.cell? (ad2.add j) = some (.int .i64 ((fs.drop (k + 1)).getD j 0 : Nat))) := by
        refine ⟨if fc = k' then ⟨g, 0, none⟩ else ⟨g, k', none⟩, fun W => ?_, fun W' hb j hj => ?_⟩
        · rw [run_slice_l W 33 (some ⟨g, 0, none⟩) L fc Try.underlying33 .i64 (k' : Int) (by omega) (by omega)]
          simp [go_sem, sliced, add_at]
          split <;> simp_all
        · rw [if_neg (by omega), hnd j, add_at, ← hk']
          exact HCF.out _ hb (k' + j) (by omega)
      have HA2 := hid hA2
      have hs1 : ∀ W, (Instr.slice 33 (.slice (some ⟨g, 0, none⟩) L fc) none (some (.int .i64 (k : Int))) none).run Try.prog W = .ok (.slice (some ⟨g, 0, none⟩) k fc) W := fun W => by
        rw [run_slice_h W 33 (some ⟨g, 0, none⟩) L fc Try.underlying33 .i64 (k : Int) (by omega) (by omega)]
        simp [go_sem, sliced, add_at]
      have hl2 : (fs.drop (k + 1)).length = L - k' := by omega
      have hs4 : L ≤ 4 := by omega
      have HL2 := hid (And.intro hl2 hs4)
      have hs4' := hs4
      clear hlt1 hld1 hnt hnd hA1 hA2 c0 k1 k2 htl hk' hl2 hs4
      go_region_held3 (fun _ => True) (trivial)
          (first
            | (refine step_append_il (v := .slice (some ⟨wr.heap.size, 0, none⟩) 0 0) rfl (.tmp 49) (.tmp 52) rfl rfl HIL0.out (fs.take k) rfl HA1.out HLS.out.1 (by have := HL2.out.2; simp; omega) (bdrew (bnew (bid wr) (.cells #[] 3))).size ?_; intro v7 w7 hil hwr how hnn; have HI7 := hid hil; have HB7 := hid ((bdrew (bnew (bid wr) (.cells #[] 3))).trans (hwr.below (bdrew (bnew (bid wr) (.cells #[] 3))).size (fun j hj e => by cases e; simp at hj))); clear hil hwr how hnn)
            | (refine step_append_il (v := v7) rfl (.tmp 53) (.tmp 57) rfl rfl HI7.out (fs.drop (k + 1)) rfl (HA2.out w7 HB7.out) HL2.out.1 (by have := HL2.out.2; rw [List.nil_append, HLS.out.1]; omega) HB7.out.size ?_; intro v8 w8 hil hwr how hnn; have HK8 := hid (HK.out.freeNew (HB7.out.trans (hwr.below HB7.out.size (fun j hj e => by have := (HI7.out.old e).1; omega))) hil); clear hil hwr how hnn HI7 HB7))
      go_upto_region 16 with fail
      have HX := hid (show OrAt w q b vw qh s hs v8 u9 (.slice none 0 0) (fs.take k ++ fs.drop (k + 1)) cs [] w8 from by have := HK8.out; rwa [List.nil_append] at this)
      have hdr := HF.out.draw (k := k) (by rw [HL.out]; exact hk)
      rw [HT.out] at hdr
      generalize hfs2 : fs.take k ++ fs.drop (k + 1) = fs2 at hdr HX
      have hfl : fs2.length = L - 1 := by rw [← hfs2, List.length_append, HLS.out.1, HLS.out.2.1]; omega
      have htl : t < 4 := by rw [← HT.out]; exact HF.out.mem (List.mem_append_right _ (getD_mem (by rw [HL.out]; exact hk)))
      have hta : ∀ x, Mem x w.heap.size b vw s → Calls Try.prog 14 #[mp4.v, .pointer (some ⟨b, 0, none⟩), HD.v ⟨(t : Int), 0, 0, false, 0⟩] x (HandRet 65 2 (tkTake mp4 s ⟨(t : Int), 0, 0, false, 0⟩).1 (tkTake mp4 s ⟨(t : Int), 0, 0, false, 0⟩).2 w.heap.size b vw x) := fun x hm => Take_any mp4 _ x _ b vw s hm (by rw [mp4_size, HF.out.len]; decide) mp4_ok
      generalize (tkTake mp4 s ⟨(t : Int), 0, 0, false, 0⟩).2 = s2 at hdr hta
      rw [hdr.1] at hta hdr
      have HTA := hid hta
      have HD1 := hid hdr.2
      have HFL := hid hfl
      have HCC := hid (And.intro hcnt hs4')
      clear hdr hta hfl hfs2 HK8 HK HLS HL2 HA1 HA2 HIL0 HCF HF HT HL q2 hs1 hs2 hcnt hs4' hk hpos
      obtain ⟨m0, m1, m2, m3, m4, _⟩ := HX.out.map.facts
      have t1 : (0 : Int) ≤ (t : Int) := by omega
      have t2 : (t : Int) < 4 := by omega
      go_upto_region 17 with (go_at_call 14; (with_reducible refine (HTA.out _ HX.out.mem).mono ?_); rintro e w9 ⟨rfl, hm, hw⟩; have HK9 := hid (HX.out.one hm hw); clear hm hw; obtain ⟨e0, e1, e2, e3, e4, ef⟩ := HK9.out.hh.facts htl)
      refine wp_rename (fun W' => OrAt w q b vw qh s2 (upd hs t ⟨(t : Int), 0, 1, false, (cs.length : Int)⟩) v8 u9 (.slice none 0 0) fs2 cs [] W') (HK9.out.setH htl ⟨(t : Int), 0, 1, false, (cs.length : Int)⟩) ?_
      clear HX HK9 e0 e1 e2 e3 e4 ef m0 m1 m2 m3 m4 HTA
      intro W4 hk4
      have HK4 := hid hk4
      have HC := hid (fun (x : World) (hb : Below W4.heap.size W4 x) => (hk4.later hb))
      clear hk4
      have HCL := hid (show cs.length ≤ 4 from by have := HCC.out.1; omega)
      have HB4 := hid (bnew (bid W4) (.cells #[.int .i64 (t : Int)] 3))
      have HA4 := hid (show ∀ j, j < 1 → (W4.alloc (.cells #[.int .i64 (t : Int)] 3)).cell? (Addr.add ⟨W4.heap.size, 0, none⟩ j) = some (.int .i64 (([t] : List Nat).getD j 0 : Nat)) from fun j hj => by
        obtain rfl : j = 0 := by omega
        rw [add_at]
        exact (cell_of_blk (heap_alloc_new W4 _) 0).trans rfl)
      go_wp2_with (at_builtin; go_must (refine wpList_append_il (v := u9) rfl (.tmp 66) (.tmp 68) rfl rfl (HC.out _ HB4.out).came [t] rfl HA4.out rfl (by have := HCL.out; omega) (Nat.le_trans HK4.out.below.size HB4.out.size) ?_; intro v9 w9 hil hwr how hnn; have HK5 := hid ((HC.out _ HB4.out).cameUp hil hwr how (Nat.le_refl _)); clear hil hwr how hnn))
      go_roundw
      case rel => exact ⟨fs2, _, _, _, _, HD1.out, rfl, hu0', HK5.out⟩
      case measure =>
        obtain ⟨a8, c8, rfl, _⟩ := HK5.out.free.form
        show fs2.length < L
        rw [HFL.out]
        omega
    · obtain rfl : fs = [] := List.length_eq_zero_iff.1 (by omega)
      have HT := hid HF.out.ready
      clear HF hm1 hm2 hm3 hfa hcnt hu hpos
      go_wp2_with fail
      go_loopw [10, 15] (fun s10 s15 W => Rel2 w q b vw qh (.slice fa 0 fc) u9 [] cs len1 s10 s15 W) (fun _ i _ => len1 + 40 - (intOf i).toNat)
      case atStart => exact ⟨0, 0, _, _, by omega, rfl, HT.out, .inl (by omega), HK.out⟩
      case round =>
        clear HK HT
        obtain ⟨j, p, s, hs, hj, rfl, hT, hpot, hO⟩ := hrel
        have HT := hid hT
        have HK := hid hO
        have HP := hid hpot
        clear hT hO hpot
        have hj1 : ((j : Nat) : Int) + 1 ≤ 100000 := by omega
        have r1 : IntKind.i64.wrap ((len1 : Int) + 40) = ((len1 + 40 : Nat) : Int) := by rw [IntKind.wrap_i64]; omega
        have r2 : IntKind.i64.wrap ((j : Int) + 1) = ((j + 1 : Nat) : Int) := by rw [IntKind.wrap_i64]; omega
        have r3 : (j : Int).tmod 4 = ((j % 4 : Nat) : Int) := by rw [Int.tmod_eq_emod_of_nonneg (by omega)]; omega
        have r4 : IntKind.i64.wrap ((j % 4 : Nat) : Int) = ((j % 4 : Nat) : Int) := by rw [IntKind.wrap_i64]; omega
        have r5 : wrap64 ((j % 4 : Nat) : Int) = ((j % 4 : Nat) : Int) := by rw [wrap_small (by omega) (by omega)]
        generalize hn40 : len1 + 40 = n40 at r1
        by_cases hlt : j < n40
        · go_upto_if 82 with fail
          go_cut [16] (fun v W => (∃ k : Nat, k < 4 ∧ v = .int .i64 k ∧ (len1 ≤ j → j % 4 = k)) ∧ W = wr)
          case first =>
            clear r1 r2 r3 r4 r5 hn40 hlt hj1
            by_cases hl : j < len1
            · obtain ⟨g, off, rfl, _, hc⟩ := (HR1.out.kept (Wrote.of_below HK.out.below (fun _ => False)) fun _ _ _ h => h).at (by omega)
              have c0 := hc j hl
              generalize zs1.getD j 0 = z at c0
              clear hc
              have i1 : (0 : Int) ≤ (j : Int) := by omega
              have i2 : (j : Int) < (len1 : Int) := by omega
              obtain ⟨k, hk4, hkk⟩ := pick4 z
              go_wp2_with fail
              go_meet
              case rel => exact ⟨⟨k, hk4, by rw [hkk], fun h => by omega⟩, rfl⟩
            · go_wp2_with fail
              go_meet
              case rel => exact ⟨⟨j % 4, by omega, by simp, fun _ => rfl⟩, rfl⟩
          case rest =>
            obtain ⟨⟨k, hk4, rfl, hown⟩, rfl⟩ := hcut
            obtain ⟨i, hi4, hik⟩ := HT.out.who hk4
            have hkd := HT.out.kinds hi4
            have hdo := HT.out.drop hi4
            have hta := HT.out.take hi4
            have hot := fun hne hj => HT.out.others (j := j) hi4 hne hj
            rw [hik] at hkd hdo hta hot
            have HOW := hid (fun hne hn => hot hne (hown hn))
            have hdr := fun x hm => Drop_any mp4 (hs k) x w.heap.size b vw s hm (by rw [mp4_size, HT.out.len]; decide) mp4_ok
            have htk := fun x hm => Take_any mp4 (hs k) x w.heap.size b vw s hm (by rw [mp4_size, HT.out.len]; decide) mp4_ok
            have HST := hid (fun hh => far_step cs hh j)
            obtain ⟨e0, e1, e2, e3, e4, ef⟩ := HK.out.hh.facts hk4
            have HJ := hid hlt
            have HI := hid hik
            clear hown hot hik r3 r4 r5 hlt hj
            have k1 : (0 : Int) ≤ (k : Int) := by omega
            have k2 : (k : Int) < 4 := by omega
            rcases hkd with ⟨hk0, hip⟩ | hk0 | hk0
            · clear hdo hta hdr htk
              go_wp2_with fail
              go_roundw
              case rel =>
                have h40 := HJ.out
                exact ⟨j + 1, p, s, hs, by omega, by go_num, HT.out, pot HP.out (by omega) (fun hn => HOW.out (by omega) hn), HK.out⟩
              case measure => have h40 := HJ.out; simp [intOf]; omega
            · have HQ := hid (hdo hk0)
              have HDR := hid hdr
              clear hdo hta htk hdr
              go_upto_region 27 with fail
              clear hk0 e0 e1 e2 e3 e4 ef
              have hne1 : Nonempty (Sat (fun W => ∃ s, OrAt w q b vw qh s hs (.slice fa 0 fc) u9 u10 [] cs (cs.take ((p + 1) / 2)) W)) := ⟨⟨_, _, HK.out⟩⟩
              have hne2 : Nonempty (Sat (fun _ => True)) := ⟨⟨w, trivial⟩⟩
              have hcells := fun (x : Sat (fun W => ∃ s, OrAt w q b vw qh s hs (.slice fa 0 fc) u9 u10 [] cs (cs.take ((p + 1) / 2)) W)) => OrAt.satReads x hk4
              have y0 := fun x => (hcells x).1
              have y1 := fun x => (hcells x).2.1
              have y2 := fun x => (hcells x).2.2.1
              have y3 := fun x => (hcells x).2.2.2.1
              have y4 := fun x => (hcells x).2.2.2.2.1
              have y5 := fun x => (hcells x).2.2.2.2.2.1
              have y6 := fun x => (hcells x).2.2.2.2.2.2.1
              have y7 := fun x => (hcells x).2.2.2.2.2.2.2.1
              have y8 := fun x => (hcells x).2.2.2.2.2.2.2.2.1
              have y9 := fun x => (hcells x).2.2.2.2.2.2.2.2.2
              clear hcells
              refine wp_region_staged (OrdD w q b vw qh s (tkDrop mp4 s (hs k)).2 hs k (tkDrop mp4 s (hs k)).1 (.slice fa 0 fc) u9 u10 [] cs (cs.take ((p + 1) / 2))) (by kernel_rfl) (by kernel_rfl) (fun L hL => OrdD.start hL HK.out) ?_
              refine wpS_plain (fun _ => True) (fun _ _ _ _ _ => trivial) (fun _ _ h => h) rfl rfl ?_
              intro KK hKK
              go_big_quiet_op
              go_big_quiet_on
              refine wpS_plain (fun W => ∃ s, OrAt w q b vw qh s hs (.slice fa 0 fc) u9 u10 [] cs (cs.take ((p + 1) / 2)) W) (fun L W hL hcl hd => by have h := hcl.no hL (j := 6) (by kernel_rfl); have h8 := hcl.no h (j := 8) (by kernel_rfl); exact OrdD.reads hd h8) (fun _ _ h => h) rfl rfl ?_
              intro KK hKK
              go_big_quiet_op
              go_big_quiet_on
              refine wpS_plain (fun _ => True) (fun _ _ _ _ _ => trivial) (fun _ _ h => h) rfl rfl ?_
              intro KK hKK
              go_big_quiet_op
              go_big_quiet_on
              refine wpS_plain (fun _ => True) (fun _ _ _ _ _ => trivial) (fun _ _ h => h) rfl rfl ?_
              intro KK hKK
              go_big_quiet_op
              go_big_quiet_on
              refine wpS_plain (fun _ => True) (fun _ _ _ _ _ => trivial) (fun _ _ h => h) rfl rfl ?_
              intro KK hKK
              go_big_quiet_op
              go_big_quiet_on
              refine wpS_plain (fun W => ∃ s, OrAt w q b vw qh s hs (.slice fa 0 fc) u9 u10 [] cs (cs.take ((p + 1) / 2)) W) (fun L W hL hcl hd => by have h := hcl.no hL (j := 6) (by kernel_rfl); have h8 := hcl.no h (j := 8) (by kernel_rfl); exact OrdD.reads hd h8) (fun _ _ h => h) rfl rfl ?_
              intro KK hKK
              go_big_quiet_op
              go_big_quiet_on
              refine wpS_call 19 #[(PM.v mp4), .pointer (some ⟨b, 0, none⟩), (hs k).v] (tkDrop mp4 s (hs k)).1.v rfl (fun _ => by go_simp) ?_ ?_
              · intro L W hL hcl hd
                have hd1 := OrdD.at6 hd hL
                refine (HDR.out _ hd1.mem).mono ?_
                rintro e w'' ⟨rfl, hm, hw⟩
                exact ⟨rfl, hd1.one hm hw⟩
              (try simp only [Act.put, List.getElem_toArray, List.getElem_cons_zero, List.getElem_cons_succ, List.setIfInBounds_toArray, List.set_cons_zero, List.set_cons_succ])
              refine wpS_plain (fun _ => True) (fun _ _ _ _ _ => trivial) (fun _ _ h => h) rfl rfl ?_
              intro KK hKK
              go_big_quiet_op
              go_big_quiet_on
              refine wpS_store rfl ?_ ?_
              · intro L W hL hcl hd
                have hd1 := OrdD.at8 hd hL
                obtain ⟨e0, e1, e2, e3, e4, ef⟩ := hd1.hh.facts hk4
                exact ⟨_, by go_simp, hd1.setH hk4 (tkDrop mp4 s (hs k)).1⟩
              (try simp only [Act.put, List.getElem_toArray, List.getElem_cons_zero, List.getElem_cons_succ, List.setIfInBounds_toArray, List.set_cons_zero, List.set_cons_succ])
              intro L W hall hd
              have HK9 := hid (OrdD.end_ hall hd)
              clear hd hall y0 y1 y2 y3 y4 y5 y6 y7 y8 y9 hne1 hne2
              go_wp2_with fail
              go_roundw
              case rel =>
                have h40 := HJ.out
                have hpp := HQ.out
                exact ⟨j + 1, p + 1, _, _, by omega, by go_num, hpp.2.2.2, pot HP.out (by omega) (fun _ => (far_step cs p j).imp id fun h => by omega), by rw [show (p + 1 + 1) / 2 = (p + 1) / 2 by omega]; exact HK9.out⟩
              case measure => have h40 := HJ.out; simp [intOf]; omega
            · have HQ := hid (hta hk0)
              have HTK := hid htk
              clear hdo hta htk hdr
              go_upto_region 28 with fail
              clear hk0 e0 e1 e2 e3 e4 ef
              have hne1 : Nonempty (Sat (fun W => ∃ s, OrAt w q b vw qh s hs (.slice fa 0 fc) u9 u10 [] cs (cs.take ((p + 1) / 2)) W)) := ⟨⟨_, _, HK.out⟩⟩
              have hne2 : Nonempty (Sat (fun _ => True)) := ⟨⟨w, trivial⟩⟩
              have hcells := fun (x : Sat (fun W => ∃ s, OrAt w q b vw qh s hs (.slice fa 0 fc) u9 u10 [] cs (cs.take ((p + 1) / 2)) W)) => OrAt.satReads x hk4
              have y0 := fun x => (hcells x).1
              have y1 := fun x => (hcells x).2.1
              have y2 := fun x => (hcells x).2.2.1
              have y3 := fun x => (hcells x).2.2.2.1
              have y4 := fun x => (hcells x).2.2.2.2.1
              have y5 := fun x => (hcells x).2.2.2.2.2.1
              have y6 := fun x => (hcells x).2.2.2.2.2.2.1
              have y7 := fun x => (hcells x).2.2.2.2.2.2.2.1
              have y8 := fun x => (hcells x).2.2.2.2.2.2.2.2.1
              have y9 := fun x => (hcells x).2.2.2.2.2.2.2.2.2
              clear hcells
              refine wp_region_staged (OrdD w q b vw qh s (tkTake mp4 s (hs k)).2 hs k (tkTake mp4 s (hs k)).1 (.slice fa 0 fc) u9 u10 [] cs (cs.take ((p + 1) / 2))) (by kernel_rfl) (by kernel_rfl) (fun L hL => OrdD.start hL HK.out) ?_
              refine wpS_plain (fun _ => True) (fun _ _ _ _ _ => trivial) (fun _ _ h => h) rfl rfl ?_
              intro KK hKK
              go_big_quiet_op
              go_big_quiet_on
              refine wpS_plain (fun W => ∃ s, OrAt w q b vw qh s hs (.slice fa 0 fc) u9 u10 [] cs (cs.take ((p + 1) / 2)) W) (fun L W hL hcl hd => by have h := hcl.no hL (j := 6) (by kernel_rfl); have h8 := hcl.no h (j := 8) (by kernel_rfl); exact OrdD.reads hd h8) (fun _ _ h => h) rfl rfl ?_
              intro KK hKK
              go_big_quiet_op
              go_big_quiet_on
              refine wpS_plain (fun _ => True) (fun _ _ _ _ _ => trivial) (fun _ _ h => h) rfl rfl ?_
              intro KK hKK
              go_big_quiet_op
              go_big_quiet_on
              refine wpS_plain (fun _ => True) (fun _ _ _ _ _ => trivial) (fun _ _ h => h) rfl rfl ?_
              intro KK hKK
              go_big_quiet_op
              go_big_quiet_on
              refine wpS_plain (fun _ => True) (fun _ _ _ _ _ => trivial) (fun _ _ h => h) rfl rfl ?_
              intro KK hKK
              go_big_quiet_op
              go_big_quiet_on
              refine wpS_plain (fun W => ∃ s, OrAt w q b vw qh s hs (.slice fa 0 fc) u9 u10 [] cs (cs.take ((p + 1) / 2)) W) (fun L W hL hcl hd => by have h := hcl.no hL (j := 6) (by kernel_rfl); have h8 := hcl.no h (j := 8) (by kernel_rfl); exact OrdD.reads hd h8) (fun _ _ h => h) rfl rfl ?_
              intro KK hKK
              go_big_quiet_op
              go_big_quiet_on
              refine wpS_call 14 #[(PM.v mp4), .pointer (some ⟨b, 0, none⟩), (hs k).v] (tkTake mp4 s (hs k)).1.v rfl (fun _ => by go_simp) ?_ ?_
              · intro L W hL hcl hd
                have hd1 := OrdD.at6 hd hL
                refine (HTK.out _ hd1.mem).mono ?_
                rintro e w'' ⟨rfl, hm, hw⟩
                exact ⟨rfl, hd1.one hm hw⟩
              (try simp only [Act.put, List.getElem_toArray, List.getElem_cons_zero, List.getElem_cons_succ, List.setIfInBounds_toArray, List.set_cons_zero, List.set_cons_succ])
              refine wpS_plain (fun _ => True) (fun _ _ _ _ _ => trivial) (fun _ _ h => h) rfl rfl ?_
              intro KK hKK
              go_big_quiet_op
              go_big_quiet_on
              refine wpS_store rfl ?_ ?_
              · intro L W hL hcl hd
                have hd1 := OrdD.at8 hd hL
                obtain ⟨e0, e1, e2, e3, e4, ef⟩ := hd1.hh.facts hk4
                exact ⟨_, by go_simp, hd1.setH hk4 (tkTake mp4 s (hs k)).1⟩
              (try simp only [Act.put, List.getElem_toArray, List.getElem_cons_zero, List.getElem_cons_succ, List.setIfInBounds_toArray, List.set_cons_zero, List.set_cons_succ])
              intro L W hall hd
              have HK9 := hid (OrdD.end_ hall hd)
              clear hd hall y0 y1 y2 y3 y4 y5 y6 y7 y8 y9 hne1 hne2
              obtain ⟨_, _, e2, _, _, ef⟩ := HK9.out.hh.facts hk4
              rw [upd_at] at e2
              have hq := HQ.out
              clear HQ
              generalize (tkTake mp4 s (hs k)).1 = g at *
              generalize (tkTake mp4 s (hs k)).2 = s2 at *
              have HK9' := HK9
              rcases hq with ⟨h9, hq⟩ | ⟨h1, hq⟩
              · rw [h9] at e2
                have HQ := hid hq
                clear hq h9
                have HC := hid (fun (x : World) (hb : Below W.heap.size W x) => (HK9.out.later hb))
                have HB4 := hid (bnew (bid W) (.cells #[.int .i64 (k : Int)] 3))
                have HA4 := hid (show ∀ j, j < 1 → (W.alloc (.cells #[.int .i64 (k : Int)] 3)).cell? (Addr.add ⟨W.heap.size, 0, none⟩ j) = some (.int .i64 (([k] : List Nat).getD j 0 : Nat)) from fun j hj => by
                  obtain rfl : j = 0 := by omega
                  rw [add_at]
                  exact (cell_of_blk (heap_alloc_new W _) 0).trans rfl)
                go_wp2_with (at_builtin; go_must (refine wpList_append_il (v := u10) rfl (.tmp 119) (.tmp 121) rfl rfl (HC.out _ HB4.out).had [k] rfl HA4.out rfl (by have := HT.out.cl; simp; omega) (Nat.le_trans HK9.out.below.size HB4.out.size) ?_; intro v9 w9 hil hwr how hnn; have HK5 := hid ((HC.out _ HB4.out).hadUp hil hwr how (Nat.le_refl _)); clear hil hwr how hnn))
                go_roundw
                case rel =>
                  have h40 := HJ.out
                  obtain ⟨hp8, hip, hp2, hoi⟩ := HQ.out
                  have hcl := HT.out.cl
                  have hk6 : OrAt w q b vw qh s2 (upd hs k g) (.slice fa 0 fc) u9 v9 [] cs (cs.take ((p + 1 + 1) / 2)) w9 := by
                    rw [show (p + 1 + 1) / 2 = i + 1 by omega, take_next (by omega), HI.out]
                    have := HK5.out
                    rwa [show (p + 1) / 2 = i by omega] at this
                  repeat apply Exists.intro
                  exact ⟨⟨j + 1, p + 1, _, _, by omega, by go_num, hoi, pot HP.out (by omega) (fun _ => (far_step cs p j).imp id fun h => by omega), hk6⟩, rfl⟩
                case measure => have h40 := HJ.out; simp [intOf]; omega
              · rw [h1] at e2
                have HQ := hid hq
                clear hq h1
                go_wp2_with fail
                go_roundw
                case rel =>
                  have h40 := HJ.out
                  have hpp := HQ.out
                  exact ⟨j + 1, p, _, _, by omega, by go_num, hpp.2, pot HP.out (by omega) (fun hn => HOW.out (by omega) hn), HK9.out⟩
                case measure => have h40 := HJ.out; simp [intOf]; omega
        · obtain rfl : p = 8 := by
            have h1 := HP.out
            have h2 := HT.out.p8
            exact far_zero (cs := cs) (i := j) (by rcases h1 with h1 | h1 <;> omega) h2
          have hcl := HT.out.cl
          have HK2 := hid (show OrAt w q b vw qh s hs (.slice fa 0 fc) u9 u10 [] cs cs wr from by
            have h1 := HK.out
            have h2 : cs.take ((8 + 1) / 2) = cs := List.take_of_length_le (by rw [hcl]; exact Nat.le_refl _)
            rwa [h2] at h1)
          obtain ⟨ad, cd, hvd, hd1, _, _, _⟩ := HK2.out.had.form
          obtain ⟨ac, cc, hvc, hc1, _, _, _⟩ := HK2.out.came.form
          rw [hcl] at hvd hvc hd1 hc1
          obtain ⟨gd, rfl⟩ := hd1 (by decide)
          obtain ⟨gc, rfl⟩ := hc1 (by decide)
          subst hvd hvc
          have HCL := hid hcl
          clear hcl hd1 hc1 HP HK r1 r2 r3 r4 r5 hj1
          go_upto_region 33 with fail
          go_wp2_with fail
          go_loopw [18] (fun i W => ∃ n : Nat, n ≤ 4 ∧ i = .int .i64 n ∧ OrAt w q b vw qh s hs (.slice fa 0 fc) (.slice (some ⟨gc, 0, none⟩) 4 cc) (.slice (some ⟨gd, 0, none⟩) 4 cd) [] cs cs W) (fun i _ => 4 - (intOf i).toNat)
          case atStart => exact ⟨0, by omega, rfl, HK2.out⟩
          case round =>
            clear HK2
            obtain ⟨n, hn, rfl, hR⟩ := hrel
            have HK := hid hR
            clear hR
            by_cases hn4 : n < 4
            · have n1 : (0 : Int) ≤ (n : Int) := by omega
              have n2 : (n : Int) < 4 := by omega
              obtain ⟨c0, f0⟩ := HK.out.had.at (k := n) (by rw [HCL.out]; exact hn4)
              obtain ⟨c1, f1⟩ := HK.out.came.at (k := n) (by rw [HCL.out]; exact hn4)
              generalize cs.getD n 0 = t at c0 c1
              go_upto_region 36 with fail
              go_quiet (fail)
              go_wp2_with fail
              go_roundw
              case rel => exact ⟨n + 1, by omega, by go_num, HK.out.later ⟨rfl, rfl, rfl, Nat.le_refl _, fun _ _ => rfl⟩⟩
              case measure => simp [intOf]; omega
            · obtain rfl : n = 4 := by omega
              obtain ⟨m0, m1, m2, m3, m4, _⟩ := HK.out.map.facts
              have hid8 : tkIdle mp4 s 0 = true := by
                have := HT.out.idle
                unfold tkIdle
                rw [this, beq_self_eq_true, Bool.and_true]
                decide
              have hia := fun x hm => Idle_any mp4 0 x w.heap.size b vw s hm (by rw [mp4_size, HT.out.len]; decide)
              rw [hid8] at hia
              have HIA := hid hia
              clear hia hid8
              go_wp2_with (first | (go_at_call 21; (with_reducible refine (told8_any _).mono ?_); rintro e w8 ⟨rfl, hb8⟩; have HK8 := hid (HK.out.later hb8); clear hb8 m0 m1 m2 m3 m4; obtain ⟨m0, m1, m2, m3, m4, _⟩ := HK8.out.map.facts) | (go_at_call 23; (with_reducible refine (HIA.out _ HK8.out.mem).mono ?_); rintro e w9 ⟨rfl, hb9⟩; have HK9 := hid (HK8.out.later hb9); clear hb9))
              go_ret
              exact ⟨rfl, HK9.out.below⟩

end Go.Proofs.Ytpphllijbbcdcaa
