/-
  EvalMates, walked.
-/
import Derived.Test.YtjnpfjalgjecnaaBlocks
import Derived.Test.YtjnpfjalgjecnaaRMates
namespace Go.Proofs.Ytjnpfjalgjecnaa
open Go.RowKit
set_option linter.unusedVariables false

set_option maxRecDepth 100000 in
set_option maxHeartbeats 4000000 in
theorem mates_long (a : Option Addr) (n c : Nat) (w : World) (hn : 30 < n) :
    Calls Try.prog 4 #[.slice a n c] w fun e w' => e = .returned (.bool true) ∧ Below w.heap.size w w' := by
  have i1 : (30 : Int) < (n : Int) := by omega
  go_enter Try.func4, Try.ntmps4
  go_wp2_with (go_at_call 10; refine (told_any _).mono ?_; rintro e w4 ⟨rfl, hb4⟩)
  go_ret
  exact ⟨rfl, hb4⟩

theorem mstep_len {os : List Int} {k : Nat} {s s' : MSt} (h : mstep os k s = some s') : s'.ms.length = s.ms.length := by
  unfold mstep at h
  split at h
  · cases h; simp
  · split at h
    · split at h
      · cases h
      · split at h
        · cases h; rw [mjoin_len]; simp
        · cases h
    · cases h; simp
theorem mgo_len (os : List Int) : ∀ f k s, (mgo os f k s).1.length ≤ s.ms.length := by
  intro f
  induction f with
  | zero =>
    intro k s
    unfold mgo mend
    split <;> simp
  | succ f ih =>
    intro k s
    unfold mgo
    split
    · simp
    · rename_i s' h
      rw [← mstep_len h]
      exact ih _ _
theorem matesOf_len (os : List Int) : (matesOf os).1.length ≤ os.length := by
  have := mgo_len os os.length 0 ⟨List.replicate os.length 0, []⟩
  rw [List.length_replicate] at this
  exact this

set_option maxRecDepth 100000 in
set_option maxHeartbeats 4000000 in
theorem mates_walk (a : Option Addr) (n c : Nat) (zs : List Int) (w : World) (hr : IntRow w a n zs) (hn : n ≤ 30) :
    Calls Try.prog 4 #[.slice a n c] w fun e w' => e = .returned (.bool true) ∧ Below w.heap.size w w' := by
  have i1 : (n : Int) ≤ 30 := by omega
  have HN := hid (show n ≤ 100000 by omega)
  have HN3 := hid hn
  have HR := hid hr
  clear hr hn
  go_enter Try.func4, Try.ntmps4
  go_upto_region 6 with (first | (go_at_call 15; refine (Blocks_any a n c zs _ HR.out HN3.out).mono ?_; rintro e w1 ⟨a1, c1, ps, rfl, hp, hb1⟩; have HP := hid (And.intro hp hb1); clear hp hb1) | (go_at_call 16; refine (Mates_any a1 n c1 ps _ HP.out.1 HN.out).mono ?_; rintro e w2 ⟨a2, c2, rfl, hr2, _, hb2⟩; have HP2 := hid (And.intro (HP.out.1.below hb2) (And.intro hr2 (bthen HP.out.2 hb2))); clear hr2 hb2) | (go_at_call 17; refine (refMates_any a1 n c1 ps _ HP2.out.1 HN.out).mono ?_; rintro e w3 ⟨a3, c3, rfl, hr3, _, hb3⟩; have HP3 := hid (And.intro (HP2.out.2.1.below hb3) (And.intro hr3 (bthen HP2.out.2.2 hb3))); clear hr3 hb3))
  have hlen := matesOf_len (opsOf ps)
  have hps : (opsOf ps).length = n := by rw [← HP.out.1.cnt]; simp [opsOf]
  rw [hps] at hlen
  clear hps
  generalize hl : (matesOf (opsOf ps)).1 = l at HP3 hlen
  clear hl
  generalize (matesOf (opsOf ps)).2 = e0
  generalize hm : l.length = m at HP3 hlen ⊢
  have HS := hid HP3.out
  clear HP HP2 HP3 hm HR
  have i2 : (m : Int) ≤ 30 := by omega
  clear hlen
  go_wp2
  go_loopw [8] (fun i wr => ∃ k : Nat, k ≤ m ∧ i = .int .i64 k ∧ (IntRow wr a2 m l ∧ IntRow wr a3 m l ∧ Below w.heap.size w wr)) (fun i _ => m - (intOf i).toNat)
  case atStart => exact ⟨0, Nat.zero_le _, rfl, HS.out⟩
  case round =>
    clear HS
    obtain ⟨k, hk, rfl, hx⟩ := hrel
    have HX := hid hx
    clear hx
    by_cases hlt : k < m
    · obtain ⟨b2, o2, rfl, _, h2⟩ := HX.out.1.at (by omega)
      obtain ⟨b3, o3, rfl, _, h3⟩ := HX.out.2.1.at (by omega)
      have d2 := h2 k hlt
      have d3 := h3 k hlt
      clear h2 h3
      have j1 : (0 : Int) ≤ (k : Int) := by omega
      have j2 : (k : Int) < (m : Int) := by omega
      have HD : Hid (∀ q, IntRow (wr.drewN q) (some ⟨b2, o2, none⟩) m l ∧ IntRow (wr.drewN q) (some ⟨b3, o3, none⟩) m l ∧ Below w.heap.size w (wr.drewN q)) := hid fun q => ⟨HX.out.1.below (bdrewN (bid wr)), HX.out.2.1.below (bdrewN (bid wr)), bdrewN HX.out.2.2⟩
      generalize l.getD k 0 = z at d2 d3
      go_wp2_with fail
      go_quiet (fail)
      go_wp2
      go_roundw
      case rel => exact ⟨k + 1, by omega, by go_num, HD.out nq⟩
      case measure => simp [intOf]; omega
    · obtain rfl : k = m := by omega
      go_wp2_with (go_at_call 10; refine (told_any _).mono ?_; rintro e w4 ⟨rfl, hb4⟩)
      go_ret
      exact ⟨rfl, bthen HX.out.2.2 hb4⟩

/-- EvalMates, whatever the list. -/
theorem mates_all (a : Option Addr) (n c : Nat) (zs : List Int) (w : World) (hr : IntRow w a n zs) :
    Calls Try.prog 4 #[.slice a n c] w fun e w' => e = .returned (.bool true) ∧ Below w.heap.size w w' := by
  rcases Nat.lt_or_ge 30 n with h | h
  · exact mates_long a n c w h
  · exact mates_walk a n c zs w hr h

end Go.Proofs.Ytjnpfjalgjecnaa
