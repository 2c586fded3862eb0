/-
  A memory and the document's own, made together; whether both have done the same; the map of four threads and two locks.
-/
import Derived.Test.YtjfinnjmcnjciaaHand
namespace Go.Proofs.Ytjfinnjmcnjciaa
open Go.RowKit
attribute [local go_sem] Later.cell Later.frozen

/-- Four threads, two locks. -/
@[reducible] def mp4 : PM := ⟨2, 2, 4, 0, 2⟩
theorem mp4_ok : mp4.Ok := by decide
theorem mp4_size : mp4.size = 48 := by decide

theorem Map_any (w : World) : Calls Try.prog 44 #[] w fun e w' => e = .returned mp4.v ∧ Below w.heap.size w w' := by
  go_enter Try.func44, Try.ntmps44
  go_wp2
  exact bodyPost_ret (v := mp4.v) (by simp [results, Try.results44, go_sem, PM.v, mp4]) rfl ⟨rfl, bnew (bid w) _⟩

theorem pRef_any (m : PM) (w : World) :
    Calls Try.prog 36 #[m.v] w fun e w' => e = .returned m.v ∧ Below w.heap.size w w' := by
  obtain ⟨s, l, t, c, d⟩ := m
  show Calls _ _ #[.agg #[.int .i64 s, .int .i64 l, .int .i64 t, .int .i64 c, .int .i64 d]] _ _
  go_enter Try.func36, Try.ntmps36
  go_wp2
  exact bodyPost_ret (v := (PM.mk s l t c d).v) (by simp [results, Try.results36, go_sem, PM.v]) rfl ⟨rfl, bnew (bnew (bid w) _) _⟩

/-- So many words, each 0. -/
def zrow (N : Nat) : List Int := List.replicate N 0
theorem zmake (M : Nat) (hM : M ≤ 1000) : ∃ cs : Array Value, cs = ((zrow M).map (Value.int .i64)).toArray ∧ ∀ W : World, (Instr.makeSlice 24 (.int .i64 (M : Int)) (.int .i64 (M : Int))).run Try.prog W = .ok (.slice (some ⟨W.heap.size, 0, none⟩) M M) (W.alloc (.cells cs 2)) := by
  obtain ⟨i, hi, hz0, hz1, hz2⟩ := info_parts infoE
  refine ⟨madeCells (Value.int .i64 0).cells (M * 1), ?_, fun W => ?_⟩
  · apply Array.ext_getElem?
    intro j
    by_cases hj : j < M
    · simp [madeCells, zrow, hj, Value.cells, Nat.mod_one]
    · rw [Array.getElem?_eq_none (by rw [size_madeCells]; omega), Array.getElem?_eq_none (by simp [zrow]; omega)]
  · have h := run_makeSlice (P := Try.prog) (w := W) 24 2 i (.int .i64 0) Try.underlying24 hi hz0 .i64 .i64 (M : Int) (M : Int) (by omega) (by omega) (by rw [hz1]; simp; omega) (by rw [hz2]; omega) (by omega)
    rw [hz1] at h
    simpa using h

theorem Pair.mono {w : World} {B B' b : Nat} {vw : Value} {c : Nat} {vr : Value} {s t : MS} (h : Pair w B b vw c vr s t) (hB : B' ≤ B) : Pair w B' b vw c vr s t := ⟨h.mem.mono hB, h.ref.mono hB, h.apart⟩

def MadeBoth (N : Nat) (w : World) (e : Ending) (w' : World) : Prop :=
  ∃ b vw c vr, e = .returned (.tuple #[.pointer (some ⟨b, 0, none⟩), .pointer (some ⟨c, 0, none⟩)]) ∧ Pair w' w.heap.size b vw c vr (MS.new (zrow N)) (MS.new (zrow N)) ∧ Below w.heap.size w w'

theorem pair_new {w1 w2 : World} {B b : Nat} {vw : Value} {c : Nat} {vr : Value} {s t : MS} (hm : Mem w1 B b vw s) (hr : Ref w2 w1.heap.size c vr t) (hb : Below w1.heap.size w1 w2) (hB : B ≤ w1.heap.size) : Pair w2 B b vw c vr s t := by
  refine ⟨hm.kept (Wrote.of_below hb (fun _ => False)) (fun _ _ h => h), hr.mono hB, fun k h1 h2 => ?_⟩
  have k1 : k < w1.heap.size := by
    rcases h1 with rfl | h1
    · exact hm.lt
    · exact (hm.row.lt k h1).2
  exact hr.old k k1 h2

set_option maxHeartbeats 2000000 in
theorem Both_any (m : PM) (w : World) (ho : m.Ok) :
    Calls Try.prog 16 #[m.v] w (MadeBoth m.size.toNat w) := by
  obtain ⟨z1, z2⟩ := m.size_bounds ho
  have HSZ := hid (fun (x : World) => refSize_any m x)
  rw [show m.size = ((m.size.toNat : Nat) : Int) by omega] at HSZ
  generalize hM : m.size.toNat = M at *
  have hM2 : M ≤ 314 := by omega
  have HRF := hid (fun (x : World) => pRef_any m x)
  obtain ⟨cs, hcs, hmk⟩ := zmake M (by omega)
  have HCS := hid hcs
  have hzl : (zrow M).length = M := by simp [zrow]
  have HZL := hid hzl
  clear hcs hM z1 z2 ho hzl
  obtain ⟨s, l, t, c, d⟩ := m
  show Calls _ _ #[.agg #[.int .i64 s, .int .i64 l, .int .i64 t, .int .i64 c, .int .i64 d]] _ _
  go_enter Try.func16, Try.ntmps16
  go_upto_region 2 with (first | (go_at_call 36; (with_reducible refine (HRF.out _).mono ?_); rintro e w1 ⟨rfl, hb1⟩; have HB1 := hid (bthen (bnew (bid w) _) hb1); clear hb1) | (go_at_call 58; (with_reducible refine (HSZ.out _).mono ?_); rintro e w2 ⟨rfl, hb2⟩; have HB2 := hid (bthen HB1.out hb2); clear hb2))
  have HR := hid (IntRow.lit (zrow M) 2 w2 cs HCS.out M HZL.out.symm)
  have HB3 := hid (bnew HB2.out (.cells cs 2))
  clear hmk
  refine wp_rename (fun W => IntRow W (some ⟨w2.heap.size, 0, none⟩) M (zrow M) ∧ Below w.heap.size w W) ⟨HR.out, HB3.out⟩ ?_
  generalize w2.heap.size = g
  rintro W ⟨hr, hb⟩
  have HR3 := hid hr
  have HB4 := hid hb
  clear hr hb HR HB3 HB2 HB1
  go_wp2_with (first | (go_at_call 59; (with_reducible refine (New_any _ _ _ _ _ HR3.out (by omega)).mono ?_); rintro e w3 ⟨b, vw, rfl, hm, hb3⟩; have HM := hid hm; have HB5 := hid hb3; clear hm hb3) | (go_at_call 60; (with_reducible refine (RefNew_any _ _ _ _ _ (HR3.out.below HB5.out) (by omega) (fun h => by cases h)).mono ?_); rintro e w4 ⟨c', vr, rfl, hm, hb4⟩; have HM2 := hid hm; have HB6 := hid hb4; clear hm hb4))
  go_ret2
  exact ⟨b, vw, c', vr, rfl, (pair_new HM.out HM2.out HB6.out HB5.out.size).mono HB4.out.size, bthen (bthen HB4.out HB5.out) HB6.out⟩

def sameA (k a v o : Int) (d : Bool) (k' a' v' o' : Int) (d' : Bool) : Bool := (k == k') && (a == a') && (v == v') && (o == o') && (d == d')
theorem sameA_refl (k a v o : Int) (d : Bool) : sameA k a v o d k a v o d = true := by simp [sameA]
theorem eq_access (k a v o k' a' v' o' : Int) (d d' : Bool) (w : World) :
    (binOp .eql 104 (.agg #[.int .i64 k, .int .i64 a, .int .i64 v, .int .i64 o, .bool d]) (.agg #[.int .i64 k', .int .i64 a', .int .i64 v', .int .i64 o', .bool d'])).run Try.prog w = .ok (.bool (sameA k a v o d k' a' v' o' d')) w := by
  have u3 := Try.underlying3
  have a3 := Try.isAgg3
  have z3 := Try.sizeOf3
  have u2 := Try.underlying2
  have a2 := Try.isAgg2
  have z2 := Try.sizeOf2
  have u4 := Try.underlying4
  have a4 := Try.isAgg4
  have z4 := Try.sizeOf4
  have hS : Try.prog.underlying 104 = some (.struct (Try.prog.fieldsOf 104)) := by kernel_rfl
  have hp : Try.prog.stoodInHeld 104 = false := by kernel_rfl
  rw [run_eql_struct, show (10000 : Nat) = 9999 + 1 from rfl, run_equalIn_agg w 9999 104 _ _ hS hp]
  simp only [Program.fieldsOf, Try.underlying104]
  go_simp
  unfold sameA
  by_cases h1 : k = k' <;> by_cases h2 : a = a' <;> by_cases h3 : v = v' <;> by_cases h4 : o = o' <;> by_cases h5 : d = d' <;> simp [h1, h2, h3, h4, h5]
theorem guard_access : Try.prog.eqGuardType Try.prog.depth 104 = false := by kernel_rfl

end Go.Proofs.Ytjfinnjmcnjciaa
