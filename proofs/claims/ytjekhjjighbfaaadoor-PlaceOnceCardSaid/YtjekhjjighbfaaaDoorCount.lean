/-
  All places, each once, in plain numbers.
-/
import Derived.Test.YtjekhjjighbfaaaDoorUni
namespace Go.Proofs.YtjekhjjighbfaaaDoor
open Go.RowKit

theorem flat_succ {α : Type} (f : Nat → List α) (k : Nat) : (List.range (k + 1)).flatMap f = (List.range k).flatMap f ++ f k := by
  rw [List.range_succ, List.flatMap_append]
  simp
theorem map_succ {α : Type} (f : Nat → α) (k : Nat) : (List.range (k + 1)).map f = (List.range k).map f ++ [f k] := by
  rw [List.range_succ, List.map_append]
  simp
theorem count_flat_append (j : Int) (A B : Nat → List Int) : ∀ n, ((List.range n).flatMap fun t => A t ++ B t).count j = ((List.range n).flatMap A).count j + ((List.range n).flatMap B).count j := by
  intro n
  induction n with
  | zero => rfl
  | succ n ih =>
    rw [flat_succ, flat_succ, flat_succ, List.count_append, List.count_append, List.count_append, List.count_append, ih]
    omega
theorem flat_congr {A B : Nat → List Int} {n : Nat} (h : ∀ i, i < n → A i = B i) : (List.range n).flatMap A = (List.range n).flatMap B := by
  induction n with
  | zero => rfl
  | succ n ih => rw [flat_succ, flat_succ, ih fun i hi => h i (by omega), h n (by omega)]
/-- Consecutive numbers. -/
def iota (a : Int) (n : Nat) : List Int := (List.range n).map fun (i : Nat) => a + (i : Int)
theorem iota_succ (a : Int) (n : Nat) : iota a (n + 1) = iota a n ++ [a + n] := map_succ _ _
theorem count_iota (a j : Int) (n : Nat) : (iota a n).count j = if a ≤ j ∧ j < a + n then 1 else 0 := by
  induction n with
  | zero =>
    have p : ¬ (a ≤ j ∧ j < a + ((0 : Nat) : Int)) := by omega
    rw [if_neg p]
    rfl
  | succ n ih =>
    rw [iota_succ, List.count_append, ih, List.count_singleton]
    by_cases h : a + (n : Int) = j
    · subst h
      have p1 : ¬ (a ≤ a + (n : Int) ∧ a + (n : Int) < a + (n : Int)) := by omega
      have p2 : a ≤ a + (n : Int) ∧ a + (n : Int) < a + ((n + 1 : Nat) : Int) := by omega
      rw [if_neg p1, if_pos p2]
      simp
    · have h2 : (a + (n : Int) == j) = false := by simpa using h
      rw [h2]
      by_cases h3 : a ≤ j ∧ j < a + (n : Int)
      · have p2 : a ≤ j ∧ j < a + ((n + 1 : Nat) : Int) := by omega
        rw [if_pos h3, if_pos p2]
        rfl
      · have p2 : ¬ (a ≤ j ∧ j < a + ((n + 1 : Nat) : Int)) := by omega
        rw [if_neg h3, if_neg p2]
        rfl
theorem iota_append (a : Int) (x y : Nat) : iota a x ++ iota (a + x) y = iota a (x + y) := by
  induction y with
  | zero => simp [iota]
  | succ y ih =>
    rw [iota_succ, ← List.append_assoc, ih, show x + (y + 1) = (x + y) + 1 by omega, iota_succ]
    congr 2
    omega
theorem iota_flat (a : Int) (E : Nat) : ∀ M : Nat, ((List.range M).flatMap fun (i : Nat) => iota (a + i * E) E) = iota a (M * E) := by
  intro M
  induction M with
  | zero => simp [iota]
  | succ M ih =>
    rw [flat_succ, ih, Nat.succ_mul, ← iota_append]
    congr 2

/-- The places as the law gathers them: behind k stripes, k locks, .. -/
def PM.z0 (m : PM) : List Int := [m.at_ 0 0 0, m.at_ 1 0 0]
def PM.z1 (m : PM) (k : Nat) : List Int := m.z0 ++ (List.range k).map fun (i : Nat) => m.at_ 2 i 0
def PM.lockL (m : PM) (i p : Nat) : List Int := (List.range p).map fun (p : Nat) => m.at_ 3 i p
def PM.z2 (m : PM) (k : Nat) : List Int := m.z1 m.s.toNat ++ (List.range k).flatMap fun i => m.lockL i 6
def PM.thrL (m : PM) (t : Nat) : List Int := [m.at_ 4 t 0, m.at_ 4 t 1, m.at_ 6 t 0]
def PM.nodL (m : PM) (t j : Nat) : List Int := (List.range j).flatMap fun (i : Nat) => [m.node t i 0, m.node t i 1]
def PM.z3 (m : PM) (k : Nat) : List Int := m.z2 m.l.toNat ++ (List.range k).flatMap fun t => m.thrL t ++ m.nodL t m.l.toNat
def PM.condL (m : PM) (i p : Nat) : List Int := (List.range p).map fun (p : Nat) => m.at_ 7 i p
def PM.z4 (m : PM) (k : Nat) : List Int := m.z3 m.t.toNat ++ (List.range k).flatMap fun i => m.condL i 6
def PM.datL (m : PM) (d : Nat) : List Int := [m.at_ 8 d 0, m.at_ 8 d 1]
def PM.z5 (m : PM) (k : Nat) : List Int := m.z4 m.c.toNat ++ (List.range k).flatMap m.datL

theorem z1_succ (m : PM) (k : Nat) : m.z1 (k + 1) = m.z1 k ++ [m.at_ 2 k 0] := by simp only [PM.z1, map_succ, List.append_assoc]
theorem z2_succ (m : PM) (k : Nat) : m.z2 (k + 1) = m.z2 k ++ m.lockL k 6 := by simp only [PM.z2, flat_succ, List.append_assoc]
theorem lockL_succ (m : PM) (i p : Nat) : m.lockL i (p + 1) = m.lockL i p ++ [m.at_ 3 i p] := map_succ _ _
theorem z3_succ (m : PM) (k : Nat) : m.z3 (k + 1) = m.z3 k ++ (m.thrL k ++ m.nodL k m.l.toNat) := by simp only [PM.z3, flat_succ, List.append_assoc]
theorem nodL_succ (m : PM) (t j : Nat) : m.nodL t (j + 1) = m.nodL t j ++ [m.node t j 0, m.node t j 1] := flat_succ _ _
theorem z4_succ (m : PM) (k : Nat) : m.z4 (k + 1) = m.z4 k ++ m.condL k 6 := by simp only [PM.z4, flat_succ, List.append_assoc]
theorem condL_succ (m : PM) (i p : Nat) : m.condL i (p + 1) = m.condL i p ++ [m.at_ 7 i p] := map_succ _ _
theorem z5_succ (m : PM) (k : Nat) : m.z5 (k + 1) = m.z5 k ++ m.datL k := by simp only [PM.z5, flat_succ, List.append_assoc]

theorem at_nat {m : PM} (h : m.Ok) (k i p : Nat) (h1 : (i : Int) < m.many k) (h2 : (p : Int) < PM.each k) : m.at_ k i p = m.from_ k + i * PM.each k + p := PM.at_in h (by omega) h1 (by omega) h2

theorem count_all {m : PM} (h : m.Ok) (j : Int) : (m.z5 m.d.toNat).count j = if 0 ≤ j ∧ j < m.size then 1 else 0 := by
  have hsz := m.size_ok h
  have htl := m.tl h
  have hs1 := h.s1
  have hl1 := h.l1
  have ht1 := h.t1
  have hc1 := h.c1
  have hd1 := h.d1
  have e0 : m.z0 = iota 0 2 := by
    have a0 := at_nat h 0 0 0 (by show (0 : Int) < 1; decide) (by decide)
    have a1 := at_nat h 1 0 0 (by show (0 : Int) < 1; decide) (by decide)
    simp only [PM.z0]
    rw [show m.at_ 0 0 0 = 0 from a0, show m.at_ 1 0 0 = 1 from a1]
    rfl
  have e1 : ((List.range m.s.toNat).map fun (i : Nat) => m.at_ 2 i 0) = iota (m.from_ 2) m.s.toNat := by
    refine List.map_congr_left fun i hi => ?_
    have hi' := List.mem_range.1 hi
    have := at_nat h 2 i 0 (by show (i : Int) < m.s; omega) (by decide)
    rw [show m.at_ 2 i 0 = _ from this]
    simp [PM.each]
  have e2 : ((List.range m.l.toNat).flatMap fun i => m.lockL i 6) = iota (m.from_ 3) (m.l.toNat * 6) := by
    rw [← iota_flat]
    refine flat_congr fun i hi => ?_
    unfold PM.lockL iota
    refine List.map_congr_left fun p hp => ?_
    have hp' := List.mem_range.1 hp
    exact at_nat h 3 i p (by show (i : Int) < m.l; omega) (by show (p : Int) < 6; omega)
  have e3 : ((List.range m.t.toNat).flatMap fun (t : Nat) => [m.at_ 4 t 0, m.at_ 4 t 1]) = iota (m.from_ 4) (m.t.toNat * 2) := by
    rw [← iota_flat]
    refine flat_congr fun t ht => ?_
    have a0 := at_nat h 4 t 0 (by show (t : Int) < m.t; omega) (by decide)
    have a1 := at_nat h 4 t 1 (by show (t : Int) < m.t; omega) (by decide)
    rw [show m.at_ 4 t 0 = _ from a0, show m.at_ 4 t 1 = _ from a1]
    rfl
  have e4 : ((List.range m.t.toNat).flatMap fun (t : Nat) => [m.at_ 6 t 0]) = iota (m.from_ 6) (m.t.toNat * 1) := by
    rw [← iota_flat]
    refine flat_congr fun t ht => ?_
    have a0 := at_nat h 6 t 0 (by show (t : Int) < m.t; omega) (by decide)
    rw [show m.at_ 6 t 0 = _ from a0]
    rfl
  have e5 : ((List.range m.t.toNat).flatMap fun t => m.nodL t m.l.toNat) = iota (m.from_ 5) (m.t.toNat * (m.l.toNat * 2)) := by
    rw [← iota_flat]
    refine flat_congr fun t ht => ?_
    unfold PM.nodL
    rw [← iota_flat]
    refine flat_congr fun i hi => ?_
    have hn : ∀ p : Int, 0 ≤ p → p < 2 → m.node t i p = m.from_ 5 + (t * m.l + i) * 2 + p := fun p q1 q2 => by
      unfold PM.node
      rw [if_pos ⟨h, by omega, by omega, by omega, by omega, q1, q2⟩]
    rw [hn 0 (by decide) (by decide), hn 1 (by decide) (by decide)]
    have el : ((m.l.toNat * 2 : Nat) : Int) = m.l * 2 := by omega
    have e : (t : Int) * ((m.l.toNat * 2 : Nat) : Int) = t * m.l * 2 := by rw [el, Int.mul_assoc]
    simp only [iota, List.range, List.range.loop, List.map_cons, List.map_nil]
    rw [e]
    simp only [List.cons.injEq, and_true]
    constructor <;> omega
  have e6 : ((List.range m.c.toNat).flatMap fun i => m.condL i 6) = iota (m.from_ 7) (m.c.toNat * 6) := by
    rw [← iota_flat]
    refine flat_congr fun i hi => ?_
    unfold PM.condL iota
    refine List.map_congr_left fun p hp => ?_
    have hp' := List.mem_range.1 hp
    exact at_nat h 7 i p (by show (i : Int) < m.c; omega) (by show (p : Int) < 6; omega)
  have e7 : (List.range m.d.toNat).flatMap m.datL = iota (m.from_ 8) (m.d.toNat * 2) := by
    rw [← iota_flat]
    refine flat_congr fun t ht => ?_
    have a0 := at_nat h 8 t 0 (by show (t : Int) < m.d; omega) (by decide)
    have a1 := at_nat h 8 t 1 (by show (t : Int) < m.d; omega) (by decide)
    unfold PM.datL
    rw [show m.at_ 8 t 0 = _ from a0, show m.at_ 8 t 1 = _ from a1]
    rfl
  have e8 : ((List.range m.t.toNat).flatMap fun t => m.thrL t ++ m.nodL t m.l.toNat).count j = (iota (m.from_ 4) (m.t.toNat * 2)).count j + (iota (m.from_ 6) (m.t.toNat * 1)).count j + (iota (m.from_ 5) (m.t.toNat * (m.l.toNat * 2))).count j := by
    rw [count_flat_append, e5]
    have : ((List.range m.t.toNat).flatMap m.thrL) = (List.range m.t.toNat).flatMap fun (t : Nat) => [m.at_ 4 t 0, m.at_ 4 t 1] ++ [m.at_ 6 t 0] := rfl
    rw [show ((List.range m.t.toNat).flatMap fun t => m.thrL t) = _ from this, count_flat_append, e3, e4]
  have etl : ((m.t.toNat * (m.l.toNat * 2) : Nat) : Int) = m.t * m.l * 2 := by
    rw [Int.natCast_mul, show ((m.t.toNat : Nat) : Int) = m.t by omega, show ((m.l.toNat * 2 : Nat) : Int) = m.l * 2 by omega, Int.mul_assoc]
  have key : ∀ (a : Int) (x : Nat) (a' : Int) (y : Nat), a' = a + (x : Int) → (iota a x).count j + (iota a' y).count j = (iota a (x + y)).count j := fun a x a' y e => by
    rw [e, ← List.count_append, iota_append]
  have f2 : m.from_ 2 = 2 := rfl
  have f3 : m.from_ 3 = 2 + m.s := rfl
  have f4 : m.from_ 4 = 2 + m.s + m.l * 6 := rfl
  have f5 : m.from_ 5 = 2 + m.s + m.l * 6 + m.t * 2 := rfl
  have f6 : m.from_ 6 = 2 + m.s + m.l * 6 + m.t * 2 + m.t * m.l * 2 := rfl
  have f7 : m.from_ 7 = 2 + m.s + m.l * 6 + m.t * 2 + m.t * m.l * 2 + m.t := rfl
  have f8 : m.from_ 8 = 2 + m.s + m.l * 6 + m.t * 2 + m.t * m.l * 2 + m.t + m.c * 6 := rfl
  have total : (m.z5 m.d.toNat).count j = (iota 0 2).count j + (iota (m.from_ 2) m.s.toNat).count j + (iota (m.from_ 3) (m.l.toNat * 6)).count j + ((iota (m.from_ 4) (m.t.toNat * 2)).count j + (iota (m.from_ 6) (m.t.toNat * 1)).count j + (iota (m.from_ 5) (m.t.toNat * (m.l.toNat * 2))).count j) + (iota (m.from_ 7) (m.c.toNat * 6)).count j + (iota (m.from_ 8) (m.d.toNat * 2)).count j := by
    unfold PM.z5 PM.z4 PM.z3 PM.z2 PM.z1
    rw [List.count_append, List.count_append, List.count_append, List.count_append, List.count_append, e0, e1, e2, e8, e6, e7]
  generalize hq : m.t.toNat * (m.l.toNat * 2) = q at total etl
  generalize m.t * m.l = tl at *
  have k1 := key 0 2 (m.from_ 2) m.s.toNat (by omega)
  have k2 := key 0 (2 + m.s.toNat) (m.from_ 3) (m.l.toNat * 6) (by omega)
  have k3 := key 0 (2 + m.s.toNat + m.l.toNat * 6) (m.from_ 4) (m.t.toNat * 2) (by omega)
  have k4 := key 0 (2 + m.s.toNat + m.l.toNat * 6 + m.t.toNat * 2) (m.from_ 5) q (by omega)
  have k5 := key 0 (2 + m.s.toNat + m.l.toNat * 6 + m.t.toNat * 2 + q) (m.from_ 6) (m.t.toNat * 1) (by omega)
  have k6 := key 0 (2 + m.s.toNat + m.l.toNat * 6 + m.t.toNat * 2 + q + m.t.toNat * 1) (m.from_ 7) (m.c.toNat * 6) (by omega)
  have k7 := key 0 (2 + m.s.toNat + m.l.toNat * 6 + m.t.toNat * 2 + q + m.t.toNat * 1 + m.c.toNat * 6) (m.from_ 8) (m.d.toNat * 2) (by omega)
  have kn := count_iota 0 j (2 + m.s.toNat + m.l.toNat * 6 + m.t.toNat * 2 + q + m.t.toNat * 1 + m.c.toNat * 6 + m.d.toNat * 2)
  have hN : (0 : Int) + ((2 + m.s.toNat + m.l.toNat * 6 + m.t.toNat * 2 + q + m.t.toNat * 1 + m.c.toNat * 6 + m.d.toNat * 2 : Nat) : Int) = m.size := by omega
  rw [hN] at kn
  rw [← kn]
  omega

end Go.Proofs.YtjekhjjighbfaaaDoor
