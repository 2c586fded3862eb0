/-
  RwEnds, RwTogether: what a step keeps.
-/
import Derived.Test.YtmcmajndcbobpaaRwPot
namespace Go.Proofs.Ytmcmajndcbobpaa
open Go.RowKit
attribute [local go_sem] Later.cell Later.frozen

structure EnInv (s : MS) (hs : Nat → HD) (os : Nat → Bool) (n N : Nat → Nat) (q sw hd : List Nat) : Prop where
  rb : RB s hs
  si : SI 2 s (vh hs) n q sw hd
  hand : HandOK hs
  out : OutOKs hs os
  cnt : ∀ t, t < 4 → n t = N t + f9 (hs t)
def EnTell (w : World) (qc b : Nat) (vw : Value) (len j : Nat) (V : World) (e : Ending) (W : World) : Prop :=
  e = .returned (.tuple #[]) ∧ ∃ s hs os n N q sw hd, EnInv s hs os n N q sw hd ∧ RPot s hs q n len (j + 1) ∧ Mem W w.heap.size b vw s ∧ CrAt W qc hs os (fun t => (N t : Nat)) ∧ Wrote (fun j => MemS b vw j ∨ j = qc) V W
theorem EnInv.active {s : MS} {hs : Nat → HD} {os : Nat → Bool} {n N : Nat → Nat} {q sw hd : List Nat} (h : EnInv s hs os n N q sw hd) {k : Nat} (hk : k < 4) (hN : N k < 2) : ¬ (remN n 2 = 0 ∧ sum4 f9 hs = 0) := by
  rintro ⟨h0, h9⟩
  have h1 := remN_none h0 hk
  have h2 := h.cnt k hk
  have h3 := sum4_get f9 hs hk
  omega
theorem CwAt.tellEnd {w : World} {qm qc b : Nat} {vw : Value} {s : MS} {hs : Nat → HD} {os : Nat → Bool} {n N : Nat → Nat} {q sw hd : List Nat} {V : World} (h : CwAt w qm qc b vw s hs os (fun t => (N t : Nat)) V) (hI : EnInv s hs os n N q sw hd)
    {k : Nat} (hk : k < 4) (hN : N k < 2) {len j : Nat} (hp : RPot s hs q n len j) (hj : j % 4 = k ∨ j < len) (rd : Bool) :
    Calls Try.prog 26 #[.pointer (some ⟨qc, 0, none⟩), mp4.v, .pointer (some ⟨b, 0, none⟩), .int .i64 k, .bool rd, .bool true] V (EnTell w qc b vw len j V) := by
  refine (step_any V qc _ b vw s hs os (fun t => (N t : Nat)) k hk rd true h.mm.mem hI.si.len h.cr h.fr).mono fun e W ⟨h1, h2, h3, h4⟩ => ?_
  obtain ⟨q', n', sw', hd', K, k1, k2, k3, k4, k5, k6, k7, k8, k9, k10, k11⟩ := cr_step hI.rb hI.si hI.hand hI.out hk (fun e => by have := hI.cnt k hk; have : f9 (hs k) = 0 := if_neg e; omega) ((N k : Nat) : Int) rd true
  generalize crStep s (hs k) (os k) ((N k : Nat) : Int) k rd true = c at *
  have hv : c.n = ((N k + K : Nat) : Int) := by
    rw [k5]
    by_cases e : K = 1
    · rw [if_pos e, wrap_small (by omega) (by omega)]; omega
    · rw [if_neg e]; omega
  refine ⟨h1, c.s, upd hs k c.h, updV os k c.o, n', updW N k (N k + K), q', sw', hd', ⟨k1, k2, k3, k4, fun t ht => ?_⟩, RPot.step hI.rb hI.si (fun t ht => by have := hI.cnt t ht; omega) hp hj (k9 fun _ => rfl) (hI.active hk hN), h2, ?_, h4⟩
  · have h5 := hI.cnt t ht
    by_cases e : t = k
    · subst e; rw [updW_at, upd_at]; omega
    · rw [updW_ne e, upd_ne e, k8 t e]; exact h5
  · have he : (fun t => ((updW N k (N k + K) t : Nat) : Int)) = updV (fun t => ((N t : Nat) : Int)) k c.n := by
      funext t
      by_cases e : t = k
      · rw [e, updV_at, updW_at, hv]
      · rw [updV_ne e, updW_ne e]
    rw [he]
    exact h3
theorem EnInv.start : EnInv (MS.new (zrow 48)) (fun _ => h0) (fun _ => false) (fun _ => 0) (fun _ => 0) [] [] [] :=
  ⟨RB.start, ⟨zrow_len 48, fun _ _ => ⟨rfl, rfl⟩, QI.start0, fun _ _ => Nat.zero_le _, fun _ _ h => absurd rfl h, rfl, rfl⟩, fun _ _ h => absurd rfl h, fun _ _ => rfl, fun _ _ => rfl⟩
theorem EnInv.done {s : MS} {hs : Nat → HD} {os : Nat → Bool} {n N : Nat → Nat} {q sw hd : List Nat} (h : EnInv s hs os n N q sw hd) {len : Nat} (hp : RPot s hs q n len (len + 400)) : s.zs.getD 4 0 = 0 ∧ s.zs.getD 7 0 = 0 ∧ ∀ t, t < 4 → N t = 2 := by
  obtain ⟨h0, h9⟩ := RPot.done h.rb h.si hp
  obtain ⟨a, b⟩ := rw_done h.rb h.si h0 h9
  refine ⟨a, b, fun t ht => ?_⟩
  have h1 := remN_none h0 ht
  have h2 := h.si.pi.le t ht
  have h3 := h.cnt t ht
  have h4 := sum4_get f9 hs ht
  omega

def ToTell (w : World) (qc b : Nat) (vw : Value) (k len j : Nat) (V : World) (e : Ending) (W : World) : Prop :=
  e = .returned (.tuple #[]) ∧ ∃ s hs os ns n q sw hd, TInv k s hs os n q sw hd ∧ TPot s hs q n k len (j + 1) ∧ Mem W w.heap.size b vw s ∧ CrAt W qc hs os ns ∧ Wrote (fun j => MemS b vw j ∨ j = qc) V W
theorem CwAt.tellTog {w : World} {qm qc b : Nat} {vw : Value} {s : MS} {hs : Nat → HD} {os : Nat → Bool} {ns : Nat → Int} {n : Nat → Nat} {q sw hd : List Nat} {V : World} (h : CwAt w qm qc b vw s hs os ns V) {k : Nat} (hI : TInv k s hs os n q sw hd)
    (hk0 : 0 < k) (hk : k ≤ 4) {t : Nat} (ht : t < k) {len j : Nat} (hp : TPot s hs q n k len j) (hj : j % k = t ∨ j < len) :
    Calls Try.prog 26 #[.pointer (some ⟨qc, 0, none⟩), mp4.v, .pointer (some ⟨b, 0, none⟩), .int .i64 t, .bool true, .bool false] V (ToTell w qc b vw k len j V) := by
  refine (step_any V qc _ b vw s hs os ns t (by omega) true false h.mm.mem hI.si.len h.cr h.fr).mono fun e W ⟨h1, h2, h3, h4⟩ => ?_
  obtain ⟨n', q', sw', hd', k1, k2⟩ := hI.step hk0 hk ht hp hj (ns t)
  exact ⟨h1, _, _, _, _, n', q', sw', hd', k1, k2, h2, h3, h4⟩

end Go.Proofs.Ytmcmajndcbobpaa
