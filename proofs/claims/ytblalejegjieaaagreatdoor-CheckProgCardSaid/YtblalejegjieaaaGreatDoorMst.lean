/-
  Which instructions belong together: the plain function; fits, join.
-/
import Derived.Test.YtblalejegjieaaaGreatDoorMay
import Derived.Test.YtblalejegjieaaaGreatDoorInts
import Derived.StillTail
import Derived.WalkSmall
namespace Go.Proofs.YtblalejegjieaaaGreatDoor
open Go.RowKit
set_option linter.unusedVariables false

def fitsB (op last : Int) : Bool := if op = 20 then (last == 19) || (last == 18) else if op = 19 then last == 18 else if op = 22 then last == 21 else last == 13
def isIn (op : Int) : Bool := decide (op = 18 ∨ op = 21 ∨ op = 13)
def isOut (op : Int) : Bool := decide (op = 19 ∨ op = 20 ∨ op = 22 ∨ op = 14)

/-- Of each instruction so far the place that it belongs to; the open blocks, the last one last: where each began, which of its instructions has no mate yet. -/
structure MSt where
  ms : List Int
  op : List (Nat × Nat)

def mjoin (ms : List Int) (op : Int) (la k : Nat) : List Int := (if op = 22 ∨ op = 14 then ms.set k (la : Int) else ms).set la (k : Int)
def mstep (os : List Int) (k : Nat) (s : MSt) : Option MSt :=
  if isIn (os.getD k 0) = true then some ⟨s.ms.set k (-1), s.op ++ [(k, k)]⟩
  else if isOut (os.getD k 0) = true then
    match s.op.getLast? with
    | none => none
    | some (fr, la) => if fitsB (os.getD k 0) (os.getD la 0) = true then some ⟨mjoin (s.ms.set k (-1)) (os.getD k 0) la k, if os.getD k 0 = 19 then s.op.dropLast ++ [(fr, k)] else s.op.dropLast⟩ else none
  else some ⟨s.ms.set k (-1), s.op⟩
def mend (s : MSt) : List Int × Int :=
  match s.op.getLast? with
  | none => (s.ms, -1)
  | some (fr, _) => ([], (fr : Int))
def mgo (os : List Int) : Nat → Nat → MSt → List Int × Int
  | 0, _, s => mend s
  | f + 1, k, s => match mstep os k s with
    | none => ([], (k : Int))
    | some s' => mgo os f (k + 1) s'
def matesOf (os : List Int) : List Int × Int := mgo os os.length 0 ⟨List.replicate os.length 0, []⟩

theorem mgo_yes {os : List Int} {n k : Nat} {s s' : MSt} {R : List Int × Int} (h : mgo os (n - k) k s = R) (hk : k < n) (hs : mstep os k s = some s') : mgo os (n - (k + 1)) (k + 1) s' = R := by
  rw [show n - k = (n - (k + 1)) + 1 by omega] at h
  unfold mgo at h
  rw [hs] at h
  exact h
theorem mgo_no {os : List Int} {n k : Nat} {s : MSt} {R : List Int × Int} (h : mgo os (n - k) k s = R) (hk : k < n) (hs : mstep os k s = none) : R = ([], (k : Int)) := by
  rw [show n - k = (n - (k + 1)) + 1 by omega] at h
  unfold mgo at h
  rw [hs] at h
  exact h.symm
theorem mgo_end {os : List Int} {n : Nat} {s : MSt} {R : List Int × Int} (h : mgo os (n - n) n s = R) : R = mend s := by
  rw [Nat.sub_self] at h
  unfold mgo at h
  exact h.symm

/-- What stays so. -/
structure MInv (n k : Nat) (s : MSt) : Prop where
  len : s.ms.length = n
  lt : ∀ p ∈ s.op, p.1 < k ∧ p.2 < k
  few : s.op.length ≤ k

theorem mjoin_len (ms : List Int) (op : Int) (la k : Nat) : (mjoin ms op la k).length = ms.length := by unfold mjoin; split <;> simp

theorem MInv.step {n k : Nat} {os : List Int} {s s' : MSt} (h : MInv n k s) (hs : mstep os k s = some s') : MInv n (k + 1) s' := by
  obtain ⟨h1, h2, h3⟩ := h
  have h2' : ∀ p ∈ s.op, p.1 < k + 1 ∧ p.2 < k + 1 := fun p hp => ⟨Nat.lt_succ_of_lt (h2 p hp).1, Nat.lt_succ_of_lt (h2 p hp).2⟩
  have hd : ∀ p ∈ s.op.dropLast, p.1 < k + 1 ∧ p.2 < k + 1 := fun p hp => h2' p (List.dropLast_subset _ hp)
  unfold mstep at hs
  split at hs
  · cases hs
    refine ⟨by simpa using h1, fun p hp => ?_, by simp; omega⟩
    rcases List.mem_append.1 hp with hp | hp
    · exact h2' p hp
    · simp at hp; subst hp; simp
  · split at hs
    · split at hs
      · cases hs
      · rename_i fr la hl
        have hm := List.mem_of_getLast? hl
        split at hs
        · cases hs
          refine ⟨by rw [mjoin_len]; simpa using h1, ?_, ?_⟩
          · dsimp only
            split
            · intro p hp
              rcases List.mem_append.1 hp with hp | hp
              · exact hd p hp
              · simp at hp; subst hp; exact ⟨(h2' _ hm).1, Nat.lt_succ_self _⟩
            · exact hd
          · dsimp only
            split
            · simp; omega
            · simp; omega
        · cases hs
    · cases hs
      exact ⟨by simpa using h1, h2', by dsimp only; omega⟩

set_option maxHeartbeats 1000000 in
theorem fits_any (op last : Int) (w : World) (ho : isOut op = true) :
    Calls Tryz.prog 73 #[.int .i64 op, .int .i64 last] w fun e w' => e = .returned (.bool (fitsB op last)) ∧ w = w' := by
  have ho := of_decide_eq_true ho
  rcases ho with rfl | rfl | rfl | rfl
  · have H := hid (show fitsB 19 last = (last == 18) from rfl)
    go_enter Tryz.func73, Tryz.ntmps73
    go_wp2
    go_ret
    exact ⟨by rw [H.out]; rfl, rfl⟩
  · cases h : (last == 19)
    · have H := hid (show fitsB 20 last = (last == 18) by show ((last == 19) || (last == 18)) = _; rw [h]; rfl)
      go_enter Tryz.func73, Tryz.ntmps73
      go_wp2
      go_ret
      exact ⟨by rw [H.out]; rfl, rfl⟩
    · have H := hid (show fitsB 20 last = true by show ((last == 19) || (last == 18)) = _; rw [h]; rfl)
      go_enter Tryz.func73, Tryz.ntmps73
      go_wp2
      go_ret
      exact ⟨by rw [H.out]; rfl, rfl⟩
  · have H := hid (show fitsB 22 last = (last == 21) from rfl)
    go_enter Tryz.func73, Tryz.ntmps73
    go_wp2
    go_ret
    exact ⟨by rw [H.out]; rfl, rfl⟩
  · have H := hid (show fitsB 14 last = (last == 13) from rfl)
    go_enter Tryz.func73, Tryz.ntmps73
    go_wp2
    go_ret
    exact ⟨by rw [H.out]; rfl, rfl⟩

theorem wone {g : Nat} {w W : World} (h : Wrote (fun b => b = g) w W) (i : Nat) (u : Value) : Wrote (fun b => b = g) w (W.setCell ⟨g, i, none⟩ u) :=
  h.setCell (p := ⟨g, i, none⟩) (fun _ => rfl) u

set_option maxHeartbeats 1000000 in
theorem join_any (op : Int) (la k g cap B : Nat) (ms : List Int) (w : World) (ho : isOut op = true) (h : Ints 3 w B g cap ms) (h1 : la < ms.length) (h2 : k < ms.length) (h3 : la < k) :
    Calls Tryz.prog 74 #[.slice (some ⟨g, 0, none⟩) ms.length cap, .int .i64 op, .int .i64 la, .int .i64 k] w fun e w' => e = .returned (.tuple #[]) ∧ Ints 3 w' B g cap (mjoin ms op la k) ∧ Wrote (fun b => b = g) w w' := by
  have ho := of_decide_eq_true ho
  have c1 := h.cell h1
  have c2 := h.cell h2
  have f1 := h.frozen la
  have f2 := h.frozen k
  have hr := h.room
  unfold maxLen at hr
  obtain ⟨r1, r2⟩ := hr
  have i1 : (0 : Int) ≤ (la : Int) := by omega
  have i2 : (la : Int) < (ms.length : Int) := by omega
  have i3 : (0 : Int) ≤ (k : Int) := by omega
  have i4 : (k : Int) < (ms.length : Int) := by omega
  have H := hid h
  have n1 : la ≠ k := by omega
  have n2 : k ≠ la := by omega
  clear h h3
  rcases ho with rfl | rfl | rfl | rfl
  · have HM := hid (show mjoin ms 19 la k = ms.set la (k : Int) from rfl)
    go_enter Tryz.func74, Tryz.ntmps74
    go_wp2
    go_end0
    refine ⟨rfl, ?_, wone (Wrote.refl _ w) _ _⟩
    rw [HM.out]
    exact H.out.store la _
  · have HM := hid (show mjoin ms 20 la k = ms.set la (k : Int) from rfl)
    go_enter Tryz.func74, Tryz.ntmps74
    go_wp2
    go_end0
    refine ⟨rfl, ?_, wone (Wrote.refl _ w) _ _⟩
    rw [HM.out]
    exact H.out.store la _
  · have HM := hid (show mjoin ms 22 la k = (ms.set k (la : Int)).set la (k : Int) from rfl)
    go_enter Tryz.func74, Tryz.ntmps74
    go_wp2
    go_end0
    refine ⟨rfl, ?_, wone (wone (Wrote.refl _ w) _ _) _ _⟩
    rw [HM.out]
    have := (H.out.store k (la : Int)).store la (k : Int)
    simpa using this
  · have HM := hid (show mjoin ms 14 la k = (ms.set k (la : Int)).set la (k : Int) from rfl)
    go_enter Tryz.func74, Tryz.ntmps74
    go_wp2
    go_end0
    refine ⟨rfl, ?_, wone (wone (Wrote.refl _ w) _ _) _ _⟩
    rw [HM.out]
    have := (H.out.store k (la : Int)).store la (k : Int)
    simpa using this

theorem join_at (op : Int) (la k g cap B len : Nat) (ms : List Int) (w : World) (ho : isOut op = true) (h : Ints 3 w B g cap ms) (hl : ms.length = len) (h1 : la < len) (h2 : k < len) (h3 : la < k) :
    Calls Tryz.prog 74 #[.slice (some ⟨g, 0, none⟩) len cap, .int .i64 op, .int .i64 la, .int .i64 k] w fun e w' => e = .returned (.tuple #[]) ∧ Ints 3 w' B g cap (mjoin ms op la k) ∧ Wrote (fun b => b = g) w w' := by
  subst hl
  exact join_any op la k g cap B ms w ho h h1 h2 h3

end Go.Proofs.YtblalejegjieaaaGreatDoor
