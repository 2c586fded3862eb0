/-
  A lock that is a queue: Take and Drop in plain words; the contract of queue.
-/
import Derived.Test.YtmcmajndcbobpaaMcs
import Derived.Test.YtmcmajndcbobpaaStage
namespace Go.Proofs.Ytmcmajndcbobpaa
open Go.RowKit
attribute [local go_sem] Later.cell Later.frozen

theorem idF_may {m : PM} {h : HD} (k : mayH m h) : idF m h.t h.l = 1 + h.t * m.l + h.l := if_pos k
theorem idF_not {m : PM} {h : HD} (k : ¬ mayH m h) : idF m h.t h.l = 0 := if_neg k
theorem idF_pos {m : PM} {h : HD} (k : mayH m h) : 0 < idF m h.t h.l := by
  rw [idF_may k]
  have := node_bounds k.1 k.2.1 k.2.2.1 k.2.2.2.1 k.2.2.2.2
  omega
theorem idF_inj {m : PM} {t t' l : Int} (h : idF m t l ≠ 0) (e : idF m t l = idF m t' l) : t = t' := by
  unfold idF at h e
  by_cases c : m.Ok ∧ 0 ≤ t ∧ t < m.t ∧ 0 ≤ l ∧ l < m.l
  · rw [if_pos c] at e h
    by_cases c' : m.Ok ∧ 0 ≤ t' ∧ t' < m.t ∧ 0 ≤ l ∧ l < m.l
    · rw [if_pos c'] at e
      have hl2 := c.1.l2
      have hl1 := c.2.2.2.1
      have hl0 := c.2.2.2.2
      generalize m.l = L at *
      have : L = 1 ∨ L = 2 ∨ L = 3 ∨ L = 4 := by omega
      rcases this with rfl | rfl | rfl | rfl <;> omega
    · rw [if_neg c'] at e; exact absurd e h
  · rw [if_neg c] at h; exact absurd rfl h
theorem ownF_id {m : PM} {h : HD} (k : mayH m h) : ownF m h.l (idF m h.t h.l) = h.t := by
  have hp := idF_pos k
  obtain ⟨ho, t0, t1, l0, l1⟩ := k
  have ht := ho.t2
  obtain ⟨n, hn⟩ : ∃ n : Nat, h.t = n := ⟨h.t.toNat, by omega⟩
  rw [hn] at hp ⊢
  have none : ∀ j, j ≤ n → ownN m h.l (idF m n h.l) j = -1 := by
    intro j
    induction j with
    | zero => intro _; rfl
    | succ j ih =>
      intro hj
      refine ownN_miss (ih (by omega)) fun c => ?_
      have := idF_inj (by omega) c.2.symm
      omega
  exact ownN_hit (none n (Nat.le_refl _)) (by omega) rfl (by omega)
theorem nodeF_id {m : PM} {h : HD} (k : mayH m h) (p : Int) : nodeF m h.l (idF m h.t h.l) p = m.node h.t h.l p := by unfold nodeF; rw [ownF_id k]
theorem ownF_range (m : PM) (l x : Int) : ownF m l x = -1 ∨ ∃ t : Nat, t < 4 ∧ ownF m l x = t ∧ x ≠ 0 ∧ idF m t l = x := ownN_range m l x 4
/-- Where a node stands that has a number: in the map, or there is none. -/
theorem nodeF_range (m : PM) (l x p : Int) (p0 : 0 ≤ p) (p1 : p < 2) : nodeF m l x p = -1 ∨ 0 ≤ nodeF m l x p ∧ nodeF m l x p < m.size := by
  unfold nodeF
  by_cases c : m.Ok ∧ 0 ≤ ownF m l x ∧ ownF m l x < m.t ∧ 0 ≤ l ∧ l < m.l
  · exact .inr (node_pos c p0 p1)
  · exact .inl (node_neg c)

theorem MS.eAt_in {s : MS} {p : Int} (h0 : 0 ≤ p) (h1 : p < (s.zs.length : Int)) : s.eAt p = 0 := by unfold MS.eAt; rw [if_pos ⟨h0, h1⟩]
theorem MS.eAt_out {s : MS} : s.eAt (-1) = 2 := by unfold MS.eAt; rw [if_neg (fun h => by have := h.1; omega)]
theorem MS.stored_out {s : MS} {v : Int} : s.stored (-1) v = s := by unfold MS.stored; rw [if_neg (fun h => by have := h.1; omega)]
theorem MS.okAt_in {s : MS} {p o : Int} (h0 : 0 ≤ p) (h1 : p < (s.zs.length : Int)) : s.okAt p o = decide (s.vAt p = o) := by
  have hh : s.has p := ⟨h0, h1⟩
  unfold MS.okAt MS.vAt
  rw [if_pos hh]
  simp [hh]

def mcQueue (m : PM) (s : MS) (h : HD) : HD × MS :=
  (if s.vAt (m.at_ 3 h.l 0) = h.x then (if h.x = 0 then ⟨h.t, h.l, 9, h.rd, h.x⟩ else ⟨h.t, h.l, 4, h.rd, h.x⟩) else ⟨h.t, h.l, h.s, h.rd, s.vAt (m.at_ 3 h.l 0)⟩,
    s.swapped (m.at_ 3 h.l 0) h.x (idF m h.t h.l))

def mcTake (m : PM) (s : MS) (h : HD) : HD × MS :=
  if mayH m h then
    if h.s = 0 then (⟨h.t, h.l, 1, h.rd, h.x⟩, s.stored (m.node h.t h.l 0) 1)
    else if h.s = 1 then (⟨h.t, h.l, 2, h.rd, h.x⟩, s.stored (m.node h.t h.l 1) 0)
    else if h.s = 2 then (⟨h.t, h.l, 3, h.rd, s.vAt (m.at_ 3 h.l 0)⟩, s.loaded (m.at_ 3 h.l 0))
    else if h.s = 3 then mcQueue m s h
    else if h.s = 4 then (if 0 ≤ nodeF m h.l h.x 1 then (⟨h.t, h.l, 5, h.rd, 0⟩, s.stored (nodeF m h.l h.x 1) (idF m h.t h.l)) else (h, s))
    else if h.s = 5 then (if s.vAt (m.node h.t h.l 0) = 0 then ⟨h.t, h.l, 9, h.rd, h.x⟩ else h, s.loaded (m.node h.t h.l 0))
    else (h, s)
  else (h, s)

def mcDrop (m : PM) (s : MS) (h : HD) : HD × MS :=
  if mayH m h then
    if h.s = 9 then (if s.vAt (m.node h.t h.l 1) = 0 then ⟨h.t, h.l, 7, h.rd, h.x⟩ else ⟨h.t, h.l, 8, h.rd, s.vAt (m.node h.t h.l 1)⟩, s.loaded (m.node h.t h.l 1))
    else if h.s = 6 then (if s.vAt (m.node h.t h.l 1) = 0 then h else ⟨h.t, h.l, 8, h.rd, s.vAt (m.node h.t h.l 1)⟩, s.loaded (m.node h.t h.l 1))
    else if h.s = 7 then (if s.vAt (m.at_ 3 h.l 0) = idF m h.t h.l then ⟨h.t, h.l, 0, h.rd, h.x⟩ else ⟨h.t, h.l, 6, h.rd, h.x⟩, s.swapped (m.at_ 3 h.l 0) (idF m h.t h.l) 0)
    else if h.s = 8 then (if 0 ≤ nodeF m h.l h.x 0 then (⟨h.t, h.l, 0, h.rd, 0⟩, s.stored (nodeF m h.l h.x 0) 0) else (h, s))
    else (h, s)
  else (h, s)

/-- What the boxes of a walk hold, whatever the memory does. -/
theorem TkAt.cells {T TM E : TypeId} {w : World} {s1 ml mt c d t l s x : Int} {r : Bool} {g : HD} {B b : Nat} {vw : Value} {W : World} (k : ∃ ms, TkAt T TM E w ⟨s1, ml, mt, c, d⟩ ⟨t, l, s, r, x⟩ g B b vw ms W) :
    W.cell? ⟨w.heap.size, 0, none⟩ = some (.int .i64 s1) ∧ W.cell? ⟨w.heap.size, 1, none⟩ = some (.int .i64 ml) ∧ W.cell? ⟨w.heap.size, 2, none⟩ = some (.int .i64 mt) ∧ W.cell? ⟨w.heap.size, 3, none⟩ = some (.int .i64 c) ∧ W.cell? ⟨w.heap.size, 4, none⟩ = some (.int .i64 d) ∧
    W.cell? ⟨w.heap.size + 1, 0, none⟩ = some (.int .i64 t) ∧ W.cell? ⟨w.heap.size + 1, 1, none⟩ = some (.int .i64 l) ∧ W.cell? ⟨w.heap.size + 1, 2, none⟩ = some (.int .i64 s) ∧ W.cell? ⟨w.heap.size + 1, 3, none⟩ = some (.bool r) ∧ W.cell? ⟨w.heap.size + 1, 4, none⟩ = some (.int .i64 x) := by
  obtain ⟨ms, k⟩ := k
  obtain ⟨m0, m1, m2, m3, m4, _⟩ := k.three.map.facts
  obtain ⟨d0, d1, d2, d3, d4, _⟩ := k.three.box.facts
  exact ⟨m0, m1, m2, m3, m4, d0, d1, d2, d3, d4⟩

/-- The stages of the region of queue: the swap (8). -/
def QuD (T TM E : TypeId) (w : World) (m : PM) (h g : HD) (B b : Nat) (vw : Value) (s s' : MS) (L : Nat → Bool) (W : World) : Prop := TkAt T TM E w m h g B b vw (bif L 8 then s' else s) W

set_option maxRecDepth 100000 in
set_option maxHeartbeats 4000000 in
theorem queue_any (m : PM) (h : HD) (w : World) (B b : Nat) (vw : Value) (s : MS) (hm : Mem w B b vw s) (hz : m.size ≤ (s.zs.length : Int)) (hmay : mayH m h) (i : Int) (hi : i = idF m h.t h.l) :
    Calls Try.prog 66 #[m.v, .pointer (some ⟨b, 0, none⟩), h.v, .int .i64 i] w (HandRet 72 2 (mcQueue m s h).1 (mcQueue m s h).2 B b vw w) := by
  subst hi
  have HST := hid (TkAt.start 72 26 2 m h h0 hm)
  have HOLD := hid hm.hold
  have HTL := hid (fun (x : World) => tail_any m h.l x)
  have hp := lock_in hmay (p := 0) (by decide) (by decide)
  have hok := MS.okAt_in (s := s) (p := m.at_ 3 h.l 0) (o := h.x) hp.2.1 (by omega)
  have HSW := hid (fun (x : World) (hb : Mem x B b vw s) => Swap_at (m.at_ 3 h.l 0) h.x (idF m h.t h.l) x B b vw s hb)
  simp only [hok] at HSW
  unfold mcQueue
  dsimp only
  clear hok hp hm hz hmay
  generalize idF m h.t h.l = i at *
  generalize m.at_ 3 h.l 0 = p at *
  generalize s.vAt p = y at *
  generalize s.eAt p = ee at *
  obtain ⟨s1, ml, mt, c, d⟩ := m
  obtain ⟨ht, hl, hs, hr, hx⟩ := h
  simp only at HSW HTL
  generalize hs2 : s.swapped p hx i = s2 at *
  clear hs2
  show Calls _ _ #[.agg #[.int .i64 s1, .int .i64 ml, .int .i64 mt, .int .i64 c, .int .i64 d], _, .agg #[.int .i64 ht, .int .i64 hl, .int .i64 hs, .bool hr, .int .i64 hx], _] _ _
  go_enter Try.func66, Try.ntmps66
  go_upto_region 1 with fail
  refine wp_rename _ HST.out ?_
  intro W hk
  have HK := hid hk
  clear hk HST
  have hne1 : Nonempty (Sat (fun W => ∃ ms, TkAt 72 26 2 w ⟨s1, ml, mt, c, d⟩ ⟨ht, hl, hs, hr, hx⟩ h0 B b vw ms W)) := ⟨⟨_, _, HK.out⟩⟩
  have hne2 : Nonempty (Sat (fun _ => True)) := ⟨⟨w, trivial⟩⟩
  have hcells := fun (x : Sat (fun W => ∃ ms, TkAt 72 26 2 w ⟨s1, ml, mt, c, d⟩ ⟨ht, hl, hs, hr, hx⟩ h0 B b vw ms W)) => TkAt.cells x.p
  have y0 := fun x => (hcells x).1
  have y1 := fun x => (hcells x).2.1
  have y2 := fun x => (hcells x).2.2.1
  have y3 := fun x => (hcells x).2.2.2.1
  have y4 := fun x => (hcells x).2.2.2.2.1
  have y5 := fun x => (hcells x).2.2.2.2.2.1
  have y6 := fun x => (hcells x).2.2.2.2.2.2.1
  have y7 := fun x => (hcells x).2.2.2.2.2.2.2.1
  have y8 := fun x => (hcells x).2.2.2.2.2.2.2.2.1
  have y9 := fun x => (hcells x).2.2.2.2.2.2.2.2.2
  clear hcells
  refine wp_region_staged (QuD 72 26 2 w ⟨s1, ml, mt, c, d⟩ ⟨ht, hl, hs, hr, hx⟩ h0 B b vw s s2) (by kernel_rfl) (by kernel_rfl) (fun L hL => by unfold QuD; rw [hL 8]; exact HK.out.below (bdrew (bid W))) ?_
  refine wpS_plain (fun _ => True) (fun _ _ _ _ _ => trivial) (fun _ _ h => h) rfl rfl ?_
  intro KK hKK
  go_big_quiet_op
  go_big_quiet_on
  refine wpS_plain (fun W => ∃ ms, TkAt 72 26 2 w ⟨s1, ml, mt, c, d⟩ ⟨ht, hl, hs, hr, hx⟩ h0 B b vw ms W) (fun L W hL hcl hd => ⟨_, hd⟩) (fun _ _ h => h) rfl rfl ?_
  intro KK hKK
  go_big_quiet_op
  go_big_quiet_on
  refine wpS_plain (fun _ => True) (fun _ _ _ _ _ => trivial) (fun _ _ h => h) rfl rfl ?_
  intro KK hKK
  go_big_quiet_op
  go_big_quiet_on
  refine wpS_plain (fun W => ∃ ms, TkAt 72 26 2 w ⟨s1, ml, mt, c, d⟩ ⟨ht, hl, hs, hr, hx⟩ h0 B b vw ms W) (fun L W hL hcl hd => ⟨_, hd⟩) (fun _ _ h => h) rfl rfl ?_
  intro KK hKK
  go_big_quiet_op
  go_big_quiet_on
  refine wpS_call 58 #[(PM.mk s1 ml mt c d).v, .int .i64 hl] (.int .i64 p) rfl (fun _ => by go_simp) ?_ ?_
  · intro L W hL hcl hd
    refine (HTL.out W).mono ?_
    rintro e w'' ⟨rfl, hb⟩
    exact ⟨rfl, TkAt.below hd hb⟩
  (try simp only [Act.put, List.getElem_toArray, List.getElem_cons_zero, List.getElem_cons_succ, List.setIfInBounds_toArray, List.set_cons_zero, List.set_cons_succ])
  refine wpS_plain (fun _ => True) (fun _ _ _ _ _ => trivial) (fun _ _ h => h) rfl rfl ?_
  intro KK hKK
  go_big_quiet_op
  go_big_quiet_on
  refine wpS_plain (fun W => ∃ ms, TkAt 72 26 2 w ⟨s1, ml, mt, c, d⟩ ⟨ht, hl, hs, hr, hx⟩ h0 B b vw ms W) (fun L W hL hcl hd => ⟨_, hd⟩) (fun _ _ h => h) rfl rfl ?_
  intro KK hKK
  go_big_quiet_op
  go_big_quiet_on
  refine wpS_plain (fun _ => True) (fun _ _ _ _ _ => trivial) (fun _ _ h => h) rfl rfl ?_
  intro KK hKK
  go_big_quiet_op
  go_big_quiet_on
  refine wpS_call 57 #[.pointer (some ⟨b, 0, none⟩), .int .i64 p, .int .i64 hx, .int .i64 i] (.tuple #[.int .i64 y, .bool (decide (y = hx)), .int .i64 ee]) rfl (fun _ => by go_simp) ?_ ?_
  · intro L W hL hcl hd
    have hd1 : TkAt 72 26 2 w ⟨s1, ml, mt, c, d⟩ ⟨ht, hl, hs, hr, hx⟩ h0 B b vw s W := by unfold QuD at hd; rw [hL] at hd; exact hd
    refine (HSW.out W hd1.mem).mono ?_
    rintro e w'' ⟨rfl, hm, hw⟩
    exact ⟨rfl, hd1.next hm hw HOLD.out⟩
  (try simp only [Act.put, List.getElem_toArray, List.getElem_cons_zero, List.getElem_cons_succ, List.setIfInBounds_toArray, List.set_cons_zero, List.set_cons_succ])
  refine wpS_plain (fun _ => True) (fun _ _ _ _ _ => trivial) (fun _ _ h => h) rfl rfl ?_
  intro KK hKK
  go_big_quiet_op
  go_big_quiet_on
  refine wpS_plain (fun _ => True) (fun _ _ _ _ _ => trivial) (fun _ _ h => h) rfl rfl ?_
  intro KK hKK
  go_big_quiet_op
  go_big_quiet_on
  refine wpS_plain (fun _ => True) (fun _ _ _ _ _ => trivial) (fun _ _ h => h) rfl rfl ?_
  intro KK hKK
  go_big_quiet_op
  go_big_quiet_on
  refine wpS_plain (fun _ => True) (fun _ _ _ _ _ => trivial) (fun _ _ h => h) rfl rfl ?_
  intro KK hKK
  go_big_quiet_op
  go_big_quiet_on
  refine wpS_plain (fun _ => True) (fun _ _ _ _ _ => trivial) (fun _ _ h => h) rfl rfl ?_
  intro KK hKK
  go_big_quiet_op
  go_big_quiet_on
  refine wpS_plain (fun _ => True) (fun _ _ _ _ _ => trivial) (fun _ _ h => h) rfl rfl ?_
  intro KK hKK
  go_big_quiet_op
  go_big_quiet_on
  refine wpS_plain (fun _ => True) (fun _ _ _ _ _ => trivial) (fun _ _ h => h) rfl rfl ?_
  intro KK hKK
  go_big_quiet_op
  go_big_quiet_on
  intro L W2 hall hd
  have HK2 := hid (show TkAt 72 26 2 w ⟨s1, ml, mt, c, d⟩ ⟨ht, hl, hs, hr, hx⟩ h0 B b vw s2 W2 from by unfold QuD at hd; rw [hall 8 (by decide)] at hd; exact hd)
  clear hd hall y0 y1 y2 y3 y4 y5 y6 y7 y8 y9 hne1 hne2 HK HSW HTL
  obtain ⟨e0, e1, e2, e3, e4, ef⟩ := HK2.out.three.box.facts
  obtain ⟨o0, o1, o2, o3, o4, of⟩ := HK2.out.three.out.facts
  by_cases hyx : y = hx
  · subst hyx
    have hd1 : decide (y = y) = true := by simp
    rw [hd1]
    by_cases h0 : y = 0
    · subst h0
      go_wp2_with fail
      refine bodyPost_ret (v := (HD.mk ht hl 9 hr 0).v) (by simp [results, Try.results66, go_sem, o0, o1, o2, o3, o4, of]) rfl ?_
      exact (HK2.out.setS HOLD.out 9).done HOLD.out _ _ rfl rfl rfl _ _ _ _ _
    · go_wp2_with fail
      refine bodyPost_ret (v := (HD.mk ht hl 4 hr y).v) (by simp [results, Try.results66, go_sem, o0, o1, o2, o3, o4, of]) rfl ?_
      exact (HK2.out.setS HOLD.out 4).done HOLD.out _ _ (by simp [h0]) rfl rfl _ _ _ _ _
  · have hd1 : decide (y = hx) = false := by simp [hyx]
    rw [hd1]
    go_wp2_with fail
    refine bodyPost_ret (v := (HD.mk ht hl hs hr y).v) (by simp [results, Try.results66, go_sem, o0, o1, o2, o3, o4, of]) rfl ?_
    exact (HK2.out.setX HOLD.out y).done HOLD.out _ _ (by simp [hyx]) rfl rfl _ _ _ _ _

end Go.Proofs.Ytmcmajndcbobpaa
