/-
  The document's own places are package place's: Clock to Owner.
-/
import Derived.Test.YtjfinnjmcnjciaaPFind
namespace Go.Proofs.Ytjfinnjmcnjciaa
open Go.RowKit

theorem has_small {m : PM} {k i p : Nat} (hh : m.Has k i p) : (k = 0 ∨ k = 1 → i = 0) ∧ (k = 0 ∨ k = 1 ∨ k = 2 ∨ k = 6 → p = 0) ∧ (k = 8 → p < 2) := by
  obtain ⟨h1, h2, h3⟩ := hh
  refine ⟨?_, ?_, ?_⟩
  · rintro (rfl | rfl) <;> simp only [PM.many] at h2 <;> omega
  · rintro (rfl | rfl | rfl | rfl) <;> simp only [PM.each] at h3 <;> omega
  · rintro rfl
    simp only [PM.each] at h3
    omega

theorem findIs_in {m : PM} (h : m.Ok) {k i p : Nat} (hh : m.Has k i p) {q : List Int} (hq : q = tupL m.l.toNat k i p) {r : Int} (hf : FindIs m q r) : r = m.loc k i p := by
  have hr := m.loc_range h hh
  rcases hf with ⟨n, rfl, hn, ht⟩ | ⟨_, hno⟩
  · obtain ⟨k', i', p', hh', hl, ht'⟩ := m.tup_of h (a := n) (by omega) hn
    rw [ht', hq] at ht
    obtain ⟨a1, a2, a3⟩ := has_small hh
    obtain ⟨b1, b2, b3⟩ := has_small hh'
    obtain ⟨rfl, rfl, rfl⟩ := tupL_inj hh'.kind hh.kind b3 a3 ht b1 a1 b2 a2
    exact hl.symm
  · exfalso
    have he : (((m.loc k i p).toNat : Nat) : Int) = m.loc k i p := by omega
    refine hno (m.loc k i p).toNat (by omega) ?_
    rw [he, m.tup_at h hh, hq]
theorem findIs_out {m : PM} (h : m.Ok) {q : List Int} (hne : ∀ k i p, m.Has k i p → tupL m.l.toNat k i p ≠ q) {r : Int} (hf : FindIs m q r) : r = -1 := by
  rcases hf with ⟨n, rfl, hn, ht⟩ | ⟨rfl, _⟩
  · obtain ⟨k, i, p, hh, _, ht'⟩ := m.tup_of h (a := n) (by omega) hn
    exact absurd (ht'.symm.trans ht) (hne k i p hh)
  · rfl

theorem is_Clock {m : PM} (h : m.Ok) {r : Int} (hf : FindIs m [1, 0, 0, 0] r) : r = m.at_ 0 0 0 := by
  by_cases hr : True
  · have hh : m.Has 0 0 0 := ⟨by decide, by show (0 : Int) < 1; decide, by decide⟩
    have e := findIs_in h hh (by simp [tupL]) hf
    rw [e]
    have e2 := PM.at_in h (k := 0) (i := 0) (p := 0) (by decide) (by show (0 : Int) < 1; decide) (by decide) (by decide)
    rw [e2]
    unfold PM.loc
    rfl
  · exact absurd trivial hr
theorem is_Seq {m : PM} (h : m.Ok) {r : Int} (hf : FindIs m [2, 0, 0, 0] r) : r = m.at_ 1 0 0 := by
  by_cases hr : True
  · have hh : m.Has 1 0 0 := ⟨by decide, by show (0 : Int) < 1; decide, by decide⟩
    have e := findIs_in h hh (by simp [tupL]) hf
    rw [e]
    have e2 := PM.at_in h (k := 1) (i := 0) (p := 0) (by decide) (by show (0 : Int) < 1; decide) (by decide) (by decide)
    rw [e2]
    unfold PM.loc
    rfl
  · exact absurd trivial hr
theorem is_Stripe {m : PM} (h : m.Ok) (i : Int) {r : Int} (hf : FindIs m [3, i, 0, 0] r) : r = m.at_ 2 i 0 := by
  by_cases hr : 0 ≤ i ∧ i < m.many 2
  · have hh : m.Has 2 i.toNat 0 := ⟨by decide, by omega, by decide⟩
    have ei : ((i.toNat : Nat) : Int) = i := by omega
    have e := findIs_in h hh (by simp [tupL, ei]) hf
    rw [e]
    have e2 := PM.at_in h (k := 2) (i := i) (p := 0) (by omega) (by omega) (by decide) (by decide)
    rw [e2]
    unfold PM.loc
    rw [ei]
    try rfl
  · have e : m.at_ 2 i 0 = -1 := PM.at_out (by omega)
    rw [e]
    refine findIs_out h (fun k i' p' hh he => hr ?_) hf
    have hk := hh.kind
    have h2 := hh.many
    have h3 := hh.part
    have hc : k = 0 ∨ k = 1 ∨ k = 2 ∨ k = 3 ∨ k = 4 ∨ k = 5 ∨ k = 6 ∨ k = 7 ∨ k = 8 := by omega
    rcases hc with rfl | rfl | rfl | rfl | rfl | rfl | rfl | rfl | rfl <;> simp only [tupL] at he
    all_goals first
      | (simp at he; done)
      | (split at he <;> simp at he <;> done)
      | (simp at he; (try simp only [PM.each] at h3 ⊢); omega)
      | (split at he <;> simp at he; omega)
      | (split at he
         · simp at he <;> omega
         · simp at he <;> omega)
theorem is_Lock {m : PM} (h : m.Ok) (i p : Int) {r : Int} (hf : FindIs m [4, i, 0, p] r) : r = m.at_ 3 i p := by
  by_cases hr : 0 ≤ i ∧ i < m.many 3 ∧ 0 ≤ p ∧ p < PM.each 3
  · have hh : m.Has 3 i.toNat p.toNat := ⟨by decide, by omega, by simp only [PM.each] at hr ⊢; omega⟩
    have ei : ((i.toNat : Nat) : Int) = i := by omega
    have ep : ((p.toNat : Nat) : Int) = p := by omega
    have e := findIs_in h hh (by simp [tupL, ei, ep]) hf
    rw [e]
    have e2 := PM.at_in h (k := 3) (i := i) (p := p) (by omega) (by omega) (by omega) (by omega)
    rw [e2]
    unfold PM.loc
    rw [ei, ep]
    try rfl
  · have e : m.at_ 3 i p = -1 := PM.at_out (by simp only [PM.each] at hr ⊢; omega)
    rw [e]
    refine findIs_out h (fun k i' p' hh he => hr ?_) hf
    have hk := hh.kind
    have h2 := hh.many
    have h3 := hh.part
    have hc : k = 0 ∨ k = 1 ∨ k = 2 ∨ k = 3 ∨ k = 4 ∨ k = 5 ∨ k = 6 ∨ k = 7 ∨ k = 8 := by omega
    rcases hc with rfl | rfl | rfl | rfl | rfl | rfl | rfl | rfl | rfl <;> simp only [tupL] at he
    all_goals first
      | (simp at he; done)
      | (split at he <;> simp at he <;> done)
      | (simp at he; (try simp only [PM.each] at h3 ⊢); omega)
      | (split at he <;> simp at he; omega)
      | (split at he
         · simp at he <;> omega
         · simp at he <;> omega)
set_option maxHeartbeats 1000000 in
theorem refLock_any (m : PM) (i p : Int) (w : World) :
    Calls Try.prog 81 #[m.v, .int .i64 i, .int .i64 p] w fun e w' => e = .returned (.int .i64 (m.at_ 3 i p)) ∧ Below w.heap.size w w' := by
  by_cases h : m.Ok
  · have hF : ∀ W, Calls Try.prog 118 #[m.v, .agg #[.int .i64 4, .int .i64 (i), .int .i64 0, .int .i64 p]] W fun e w' => e = .returned (.int .i64 (m.at_ 3 i p)) ∧ Below W.heap.size W w' := fun W =>
      (find_ok m 4 i 0 p W h).mono fun e w' ⟨⟨r, he, hf⟩, hb⟩ => ⟨by rw [he, is_Lock h i p hf], hb⟩
    have HFi := hid hF
    clear hF
    generalize m.at_ 3 i p = r at *
    clear h
    obtain ⟨s, l, t, c, d⟩ := m
    show Calls _ _ #[.agg #[.int .i64 s, .int .i64 l, .int .i64 t, .int .i64 c, .int .i64 d], _, _] _ _
    go_enter Try.func81, Try.ntmps81
    go_wp2_with (go_at_call 118; refine (HFi.out _).mono ?_; rintro e w1 ⟨rfl, hb1⟩)
    go_ret
    exact ⟨rfl, bthen (bnew (bid w) _) hb1⟩
  · have e : m.at_ 3 i p = -1 := PM.at_out (.inl h)
    have HFi := hid (fun W => find_no m 4 i 0 p W h)
    rw [e]
    clear h e
    obtain ⟨s, l, t, c, d⟩ := m
    show Calls _ _ #[.agg #[.int .i64 s, .int .i64 l, .int .i64 t, .int .i64 c, .int .i64 d], _, _] _ _
    go_enter Try.func81, Try.ntmps81
    go_wp2_with (go_at_call 118; refine (HFi.out _).mono ?_; rintro e w1 ⟨rfl, hb1⟩)
    go_ret
    exact ⟨rfl, bthen (bnew (bid w) _) hb1⟩

theorem is_Thread {m : PM} (h : m.Ok) (i p : Int) {r : Int} (hf : FindIs m [5, i, 0, p] r) : r = m.at_ 4 i p := by
  by_cases hr : 0 ≤ i ∧ i < m.many 4 ∧ 0 ≤ p ∧ p < PM.each 4
  · have hh : m.Has 4 i.toNat p.toNat := ⟨by decide, by omega, by simp only [PM.each] at hr ⊢; omega⟩
    have ei : ((i.toNat : Nat) : Int) = i := by omega
    have ep : ((p.toNat : Nat) : Int) = p := by omega
    have e := findIs_in h hh (by simp [tupL, ei, ep]) hf
    rw [e]
    have e2 := PM.at_in h (k := 4) (i := i) (p := p) (by omega) (by omega) (by omega) (by omega)
    rw [e2]
    unfold PM.loc
    rw [ei, ep]
    try rfl
  · have e : m.at_ 4 i p = -1 := PM.at_out (by simp only [PM.each] at hr ⊢; omega)
    rw [e]
    refine findIs_out h (fun k i' p' hh he => hr ?_) hf
    have hk := hh.kind
    have h2 := hh.many
    have h3 := hh.part
    have hc : k = 0 ∨ k = 1 ∨ k = 2 ∨ k = 3 ∨ k = 4 ∨ k = 5 ∨ k = 6 ∨ k = 7 ∨ k = 8 := by omega
    rcases hc with rfl | rfl | rfl | rfl | rfl | rfl | rfl | rfl | rfl <;> simp only [tupL] at he
    all_goals first
      | (simp at he; done)
      | (split at he <;> simp at he <;> done)
      | (simp at he; (try simp only [PM.each] at h3 ⊢); omega)
      | (split at he <;> simp at he; omega)
      | (split at he
         · simp at he <;> omega
         · simp at he <;> omega)
theorem is_Flag {m : PM} (h : m.Ok) (i : Int) {r : Int} (hf : FindIs m [7, i, 0, 0] r) : r = m.at_ 6 i 0 := by
  by_cases hr : 0 ≤ i ∧ i < m.many 6
  · have hh : m.Has 6 i.toNat 0 := ⟨by decide, by omega, by decide⟩
    have ei : ((i.toNat : Nat) : Int) = i := by omega
    have e := findIs_in h hh (by simp [tupL, ei]) hf
    rw [e]
    have e2 := PM.at_in h (k := 6) (i := i) (p := 0) (by omega) (by omega) (by decide) (by decide)
    rw [e2]
    unfold PM.loc
    rw [ei]
    try rfl
  · have e : m.at_ 6 i 0 = -1 := PM.at_out (by omega)
    rw [e]
    refine findIs_out h (fun k i' p' hh he => hr ?_) hf
    have hk := hh.kind
    have h2 := hh.many
    have h3 := hh.part
    have hc : k = 0 ∨ k = 1 ∨ k = 2 ∨ k = 3 ∨ k = 4 ∨ k = 5 ∨ k = 6 ∨ k = 7 ∨ k = 8 := by omega
    rcases hc with rfl | rfl | rfl | rfl | rfl | rfl | rfl | rfl | rfl <;> simp only [tupL] at he
    all_goals first
      | (simp at he; done)
      | (split at he <;> simp at he <;> done)
      | (simp at he; (try simp only [PM.each] at h3 ⊢); omega)
      | (split at he <;> simp at he; omega)
      | (split at he
         · simp at he <;> omega
         · simp at he <;> omega)
theorem is_Cond {m : PM} (h : m.Ok) (i p : Int) {r : Int} (hf : FindIs m [8, i, 0, p] r) : r = m.at_ 7 i p := by
  by_cases hr : 0 ≤ i ∧ i < m.many 7 ∧ 0 ≤ p ∧ p < PM.each 7
  · have hh : m.Has 7 i.toNat p.toNat := ⟨by decide, by omega, by simp only [PM.each] at hr ⊢; omega⟩
    have ei : ((i.toNat : Nat) : Int) = i := by omega
    have ep : ((p.toNat : Nat) : Int) = p := by omega
    have e := findIs_in h hh (by simp [tupL, ei, ep]) hf
    rw [e]
    have e2 := PM.at_in h (k := 7) (i := i) (p := p) (by omega) (by omega) (by omega) (by omega)
    rw [e2]
    unfold PM.loc
    rw [ei, ep]
    try rfl
  · have e : m.at_ 7 i p = -1 := PM.at_out (by simp only [PM.each] at hr ⊢; omega)
    rw [e]
    refine findIs_out h (fun k i' p' hh he => hr ?_) hf
    have hk := hh.kind
    have h2 := hh.many
    have h3 := hh.part
    have hc : k = 0 ∨ k = 1 ∨ k = 2 ∨ k = 3 ∨ k = 4 ∨ k = 5 ∨ k = 6 ∨ k = 7 ∨ k = 8 := by omega
    rcases hc with rfl | rfl | rfl | rfl | rfl | rfl | rfl | rfl | rfl <;> simp only [tupL] at he
    all_goals first
      | (simp at he; done)
      | (split at he <;> simp at he <;> done)
      | (simp at he; (try simp only [PM.each] at h3 ⊢); omega)
      | (split at he <;> simp at he; omega)
      | (split at he
         · simp at he <;> omega
         · simp at he <;> omega)
theorem is_Data {m : PM} (h : m.Ok) (i : Int) {r : Int} (hf : FindIs m [9, i, 0, 0] r) : r = m.at_ 8 i 0 := by
  by_cases hr : 0 ≤ i ∧ i < m.many 8
  · have hh : m.Has 8 i.toNat 0 := ⟨by decide, by omega, by decide⟩
    have ei : ((i.toNat : Nat) : Int) = i := by omega
    have e := findIs_in h hh (by simp [tupL, ei]) hf
    rw [e]
    have e2 := PM.at_in h (k := 8) (i := i) (p := 0) (by omega) (by omega) (by decide) (by decide)
    rw [e2]
    unfold PM.loc
    rw [ei]
    try rfl
  · have e : m.at_ 8 i 0 = -1 := PM.at_out (by omega)
    rw [e]
    refine findIs_out h (fun k i' p' hh he => hr ?_) hf
    have hk := hh.kind
    have h2 := hh.many
    have h3 := hh.part
    have hc : k = 0 ∨ k = 1 ∨ k = 2 ∨ k = 3 ∨ k = 4 ∨ k = 5 ∨ k = 6 ∨ k = 7 ∨ k = 8 := by omega
    rcases hc with rfl | rfl | rfl | rfl | rfl | rfl | rfl | rfl | rfl <;> simp only [tupL] at he
    all_goals first
      | (simp at he; done)
      | (split at he <;> simp at he <;> done)
      | (simp at he; (try simp only [PM.each] at h3 ⊢); omega)
      | (split at he <;> simp at he; omega)
      | (split at he
         · simp at he <;> omega
         · simp at he <;> omega)
theorem is_Owner {m : PM} (h : m.Ok) (i : Int) {r : Int} (hf : FindIs m [10, i, 0, 0] r) : r = m.at_ 8 i 1 := by
  by_cases hr : 0 ≤ i ∧ i < m.many 8
  · have hh : m.Has 8 i.toNat 1 := ⟨by decide, by omega, by decide⟩
    have ei : ((i.toNat : Nat) : Int) = i := by omega
    have e := findIs_in h hh (by simp [tupL, ei]) hf
    rw [e]
    have e2 := PM.at_in h (k := 8) (i := i) (p := 1) (by omega) (by omega) (by decide) (by decide)
    rw [e2]
    unfold PM.loc
    rw [ei]
    try rfl
  · have e : m.at_ 8 i 1 = -1 := PM.at_out (by omega)
    rw [e]
    refine findIs_out h (fun k i' p' hh he => hr ?_) hf
    have hk := hh.kind
    have h2 := hh.many
    have h3 := hh.part
    have hc : k = 0 ∨ k = 1 ∨ k = 2 ∨ k = 3 ∨ k = 4 ∨ k = 5 ∨ k = 6 ∨ k = 7 ∨ k = 8 := by omega
    rcases hc with rfl | rfl | rfl | rfl | rfl | rfl | rfl | rfl | rfl <;> simp only [tupL] at he
    all_goals first
      | (simp at he; done)
      | (split at he <;> simp at he <;> done)
      | (simp at he; (try simp only [PM.each] at h3 ⊢); omega)
      | (split at he <;> simp at he; omega)
      | (split at he
         · simp at he <;> omega
         · simp at he <;> omega)
end Go.Proofs.Ytjfinnjmcnjciaa
