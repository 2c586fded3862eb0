/-
  Three attempts by picks: the law's own run of them. Three attempts by picks: what has been read is summed up. Three attempts by picks: what is looked at when they are through. Three attempts by picks: a new run begins. Three attempts by picks: the loop. Three attempts by picks: the law's own run of them. Tl2Reads.
-/
import Derived.Test.YtjfinnjmcnjciaaTrZ
namespace Go.Proofs.Ytjfinnjmcnjciaa
open Go.RowKit
attribute [local go_sem] Later.cell Later.frozen

/-- The first words. -/
def fillS : Nat → MS
  | 0 => S0
  | d + 1 => (fillS d).stored (dataP d) 10
theorem fillS_at : ∀ d, d ≤ 4 → (fillS d).zs.length = 34 ∧ ∀ q, (fillS d).vAt q = if 26 ≤ q ∧ q < 26 + 2 * (d : Int) ∧ q % 2 = 0 then 10 else 0
  | 0, _ => ⟨rfl, fun q => by
    rw [if_neg (by omega)]
    exact zrow_v 34 q⟩
  | d + 1, hd => by
    obtain ⟨h1, h2⟩ := fillS_at d (by omega)
    have hh : (fillS d).has (dataP d) := ⟨by unfold dataP; omega, by rw [h1]; unfold dataP; omega⟩
    refine ⟨(len_stored _ _ _).trans h1, fun q => ?_⟩
    show ((fillS d).stored (dataP d) 10).vAt q = _
    rw [vq_stored hh]
    by_cases e : q = dataP d
    · rw [if_pos e, if_pos (by unfold dataP at e; omega)]
    · rw [if_neg e, h2]
      unfold dataP at e
      by_cases e2 : 26 ≤ q ∧ q < 26 + 2 * (d : Int) ∧ q % 2 = 0
      · rw [if_pos e2, if_pos (by omega)]
      · rw [if_neg e2, if_neg (by omega)]
theorem fill_start (ck : Int) (L : Nat) : TI ck L 0 (fun _ => none) (fun _ => dumR) (fillS 4) := by
  obtain ⟨h1, h2⟩ := fillS_at 4 (by decide)
  exact TI.start L h1 (fun d hd => by rw [h2, if_pos (by omega)]) (fun q hq => by rw [h2, if_neg (by omega)])
structure FlI (w : World) (g1 mb : Nat) (vw : Value) (d : Nat) (W : World) : Prop where
  mem : Mem W w.heap.size mb vw (fillS d)
  map : W.heap[g1]? = some (.cells #[.int .i64 3, .int .i64 1, .int .i64 3, .int .i64 0, .int .i64 4] 31 (0, 0))
  nm : ¬ MemS mb vw g1
  below : Below w.heap.size w W
section
variable {w W W2 : World} {g1 mb d : Nat} {vw : Value}
theorem FlI.later (h : FlI w g1 mb vw d W) (hb : Below W.heap.size W W2) : FlI w g1 mb vw d W2 := ⟨h.mem.kept (Wrote.of_below hb (fun _ => False)) (fun _ _ h => h), (hb.block _ (lt_of_block h.map)).trans h.map, h.nm, bthen h.below hb⟩
theorem FlI.store (h : FlI w g1 mb vw d W) : Calls Try.prog 34 #[.pointer (some ⟨mb, 0, none⟩), .int .i64 (dataP d), .int .i64 10] W fun e W2 => e = .returned (.int .i64 ((fillS d).eAt (dataP d))) ∧ FlI w g1 mb vw (d + 1) W2 := by
  refine (Store_at (dataP d) 10 W w.heap.size mb vw _ h.mem).mono ?_
  rintro e W2 ⟨rfl, hm, hw⟩
  exact ⟨rfl, hm, (hw.block _ (lt_of_block h.map) h.nm).trans h.map, h.nm, h.below.trans (hw.below h.below.size fun k hk hs => h.mem.old k hk hs)⟩
theorem FlI.cells (h : FlI w g1 mb vw d W) : (W.cell? ⟨g1, 0, none⟩ = some (.int .i64 3) ∧ W.cell? ⟨g1, 1, none⟩ = some (.int .i64 1) ∧ W.cell? ⟨g1, 2, none⟩ = some (.int .i64 3) ∧ W.cell? ⟨g1, 3, none⟩ = some (.int .i64 0) ∧ W.cell? ⟨g1, 4, none⟩ = some (.int .i64 4)) ∧ (∀ i, W.frozen? ⟨g1, i, none⟩ = false) ∧ g1 < W.heap.size :=
  ⟨⟨cell_of_blk h.map 0, cell_of_blk h.map 1, cell_of_blk h.map 2, cell_of_blk h.map 3, cell_of_blk h.map 4⟩, fun i => frozen_of_blk h.map i, lt_of_block h.map⟩
end
/-- What there is behind i picks. -/
structure TW (w : World) (g1 ab mb : Nat) (vw : Value) (ck : Int) (L i : Nat) (nv sv : Value) (W : World) : Prop where
  ex : ∃ (n : Nat) (ns : List Int) (pt : Nat → Option Nat) (us : Nat → RU) (s : MS), nv = .int .i64 (n : Int) ∧ n ≤ i ∧ ns.length ≤ i ∧ ns = List.replicate ns.length 40 ∧ TI ck L i pt us s ∧ Tog w g1 ab mb vw sv ns pt us s (10 * i) W
def PickOk (s : MS) (u : RU) : Prop := ∃ J : RU → Prop, J u ∧ (∀ v, J v → v.busy = false → v.fin = 0 → AskOk v ∧ J (askR v)) ∧ ((asksR 9 u).busy = true ∨ (asksR 9 u).fin ≠ 0) ∧ ((asksR 9 u).fin = 0 → StOk s (asksR 9 u))
/-- The run that is picked is there. -/
structure TU (w : World) (g1 ab mb : Nat) (vw : Value) (ck : Int) (L i t : Nat) (ns : List Int) (nv sv : Value) (W : World) : Prop where
  ex : ∃ (n ub : Nat) (pt : Nat → Option Nat) (us : Nat → RU) (s : MS), nv = .int .i64 (n : Int) ∧ n ≤ i + 1 ∧ pt t = some ub ∧ PickOk s (us t) ∧ TI ck L (i + 1) pt (fset us t (nextR s (us t)).1) (nextR s (us t)).2 ∧ Tog w g1 ab mb vw sv ns pt us s (10 * i) W
theorem r_le {i L : Nat} (h : i < L + 300) (hL : L ≤ 200) : i ≤ 900 := by omega
theorem r_ten {i L : Nat} (h : i < L + 300) (hL : L ≤ 200) : 10 * i ≤ 80000 := by omega
theorem r_10 (i : Nat) : 10 * i + 10 = 10 * (i + 1) := by omega
theorem r_lt {i L : Nat} (h : i < L + 300) : (i : Int) < (L : Int) + 300 := by omega
theorem r_nlt {i L : Nat} (h : ¬ i < L + 300) : ¬ (i : Int) < (L : Int) + 300 := by omega
theorem r_w3 {L : Nat} (h : L ≤ 200) : wrap64 ((L : Int) + 300) = (L : Int) + 300 := by unfold wrap64; omega
theorem r_i1 {i L : Nat} (h : i < L + 300) (hL : L ≤ 200) : wrap64 ((i : Int) + 1) = ((i + 1 : Nat) : Int) := by unfold wrap64; omega
theorem r_mi {i L : Nat} (h : i < L + 300) : (L + 300) - (intOf (.int .i64 ((i + 1 : Nat) : Int))).toNat < (L + 300) - (intOf (.int .i64 (i : Int))).toNat := by simp [intOf]; omega
theorem r_tm (i : Nat) : ((i : Int).tmod 3) = ((i % 3 : Nat) : Int) := by rw [Int.tmod_eq_emod_of_nonneg (by omega)]; omega
theorem r_w3i (i : Nat) : wrap64 ((i % 3 : Nat) : Int) = ((i % 3 : Nat) : Int) := by unfold wrap64; omega
theorem r_il {i L : Nat} (h : i < L) : (i : Int) < (L : Int) := by omega
theorem r_nil {i L : Nat} (h : ¬ i < L) : ¬ (i : Int) < (L : Int) := by omega
theorem t_i3 {t : Nat} (h : t < 3) : (t : Int) < 3 := by omega
theorem t_yb {a b : Nat} (h : a = b) : ((a : Int) == (b : Int)) = true := by subst h; simp
theorem t_yc {a b : Nat} (h : a = b) : (a : Int) = (b : Int) := by rw [h]
theorem t_nb {a b : Nat} (h : ¬ a = b) : ((a : Int) == (b : Int)) = false := by rw [beq_eq_false_iff_ne]; omega
theorem t_nc {a b : Nat} (h : ¬ a = b) : ¬ (a : Int) = (b : Int) := by omega
theorem r_500 {n L : Nat} (h : n ≤ L + 300) (hL : L ≤ 200) : n ≤ 500 := by omega
def psum (l : List Int) : Nat → Int
  | 0 => 0
  | d + 1 => wrap64 (psum l d + l.getD d 0)
def dat4 (s : MS) : List Int := [s.vAt 26, s.vAt 28, s.vAt 30, s.vAt 32]
theorem dat4_at (s : MS) {d : Nat} (h : d < 4) : s.vAt (dataP d) = (dat4 s).getD d 0 := by
  have h4 : d = 0 ∨ d = 1 ∨ d = 2 ∨ d = 3 := by omega
  rcases h4 with rfl | rfl | rfl | rfl <;> rfl
theorem psum_dat {s : MS} (h : (s.vAt 26 + s.vAt 28 + s.vAt 30 + s.vAt 32) % 18446744073709551616 = 40) : psum (dat4 s) 4 = 40 := sum_four _ _ _ _ h
theorem thread_callsT {t : Nat} (ht : t < 3) (V : World) : Calls Try.prog 25 #[.agg #[.int .i64 3, .int .i64 1, .int .i64 3, .int .i64 0, .int .i64 4], .int .i64 (t : Int), .int .i64 0] V (fun e w' => e = .returned (.int .i64 (11 + 2 * (t : Int))) ∧ Below V.heap.size V w') := by
  have := Thread_any mT (t : Int) 0 V; rw [mT_phase ht] at this; exact this
theorem row4 (a b c d : Int) {j : Nat} (h : j < 4) : (rdW [(0, a), (1, b), (2, c), (3, d)])[j]? = some ((j : Int), [a, b, c, d].getD j 0) := by
  have h4 : j = 0 ∨ j = 1 ∨ j = 2 ∨ j = 3 := by omega
  rcases h4 with rfl | rfl | rfl | rfl <;> rfl
theorem one_new (W : World) : ∀ j, j < 1 → (W.alloc (.cells #[.int .i64 40] 2)).cell? ((⟨W.heap.size, 0, none⟩ : Addr).add j) = some (.int .i64 (([40] : List Int).getD j 0)) := fun j hj => by
  have : j = 0 := by omega
  subst this
  rw [add_at]
  exact cell_of_blk (heap_alloc_new _ _) 0
theorem r_ap {n i L : Nat} (h : n ≤ i) (hi : i < L + 300) (hL : L ≤ 200) : n + 1 ≤ 1000 := by omega
theorem r_sn {ns : List Int} {i : Nat} (h : ns.length ≤ i) : (ns ++ [40]).length ≤ i + 1 := by rw [List.length_append, List.length_singleton]; omega
theorem r_rep {ns : List Int} (h : ns = List.replicate ns.length 40) : ns ++ [40] = List.replicate (ns ++ [40]).length 40 := by
  rw [List.length_append, List.length_singleton, List.replicate_succ', ← h]
theorem t_pos {t : Nat} (h : ¬ t = 0) : (0 : Int) < (t : Int) := by omega
theorem t_npos {n : Nat} (h : ¬ 0 < n) : ¬ (0 : Int) < (n : Int) := by omega
theorem t_tmod (n : Nat) {l : Nat} (h : 0 < l) : ∃ m : Nat, (n : Int).tmod (l : Int) = (m : Int) ∧ m < l :=
  ⟨n % l, by rw [Int.tmod_eq_emod_of_nonneg (by omega)]; exact (Int.natCast_emod n l).symm, Nat.mod_lt _ h⟩
theorem t_wrm {m l : Nat} (h : m < l) (hl : l ≤ 50) : wrap64 (m : Int) = (m : Int) := by unfold wrap64; omega
theorem r_eq {i L : Nat} (h : ¬ i < L + 300) (h2 : i ≤ L + 300) : i = L + 300 := by omega

/-- A branch of the code, by its condition's slot. -/
def tgCond (n : Nat) : Code → Option Code
  | .cond (.tmp k) a b => if k = n then some a else match tgCond n a with
    | some c => some c
    | none => tgCond n b
  | .cond _ a b => match tgCond n a with
    | some c => some c
    | none => tgCond n b
  | .seq a b => match tgCond n a with
    | some c => some c
    | none => tgCond n b
  | .block _ c => tgCond n c
  | .scope c => tgCond n c
  | .loop c => tgCond n c
  | _ => none
/-- The first region of a code. -/
def tgFirst : Code → Nat
  | .region n _ _ => n
  | .seq a _ => tgFirst a
  | .block _ c => tgFirst c
  | .scope c => tgFirst c
  | .loop c => tgFirst c
  | _ => 9999
/-- What is ahead of a region, and what begins with it. -/
def tgSplit (n : Nat) : Code → Option (Code × Code)
  | .seq a b => if tgFirst b = n then some (a, b) else match tgSplit n a with
    | some c => some c
    | none => tgSplit n b
  | .cond _ a b => match tgSplit n a with
    | some c => some c
    | none => tgSplit n b
  | .block _ c => tgSplit n c
  | .scope c => tgSplit n c
  | .loop c => tgSplit n c
  | _ => none
/-- A region. -/
def tgReg (n : Nat) : Code → Option Code
  | .region k o b => if k = n then some (.region k o b) else none
  | .seq a b => match tgReg n a with
    | some c => some c
    | none => tgReg n b
  | .cond _ a b => match tgReg n a with
    | some c => some c
    | none => tgReg n b
  | .block _ c => tgReg n c
  | .scope c => tgReg n c
  | .loop c => tgReg n c
  | _ => none
noncomputable def tgR25 : Code := (Try.f12.body.bind (tgReg 25)).getD .skip
noncomputable def tgNew : Code := (Try.f12.body.bind (tgCond 82)).getD .skip
noncomputable def tgSum : Code := (Try.f12.body.bind (tgCond 178)).getD .skip
/-- A block. -/
def tgBlock (n : Nat) : Code → Option Code
  | .block k c => if k = n then some (.block k c) else tgBlock n c
  | .seq a b => match tgBlock n a with
    | some c => some c
    | none => tgBlock n b
  | .cond _ a b => match tgBlock n a with
    | some c => some c
    | none => tgBlock n b
  | .scope c => tgBlock n c
  | .loop c => tgBlock n c
  | _ => none
noncomputable def tgBlk : Code := (Try.f12.body.bind (tgBlock 2)).getD .skip
noncomputable def tgEnd : Code := ((Try.f12.body.bind (tgSplit 39)).map Prod.snd).getD .skip

end Go.Proofs.Ytjfinnjmcnjciaa

namespace Go.Proofs.Ytjfinnjmcnjciaa
open Go.RowKit
attribute [local go_sem] Later.cell Later.frozen

set_option maxHeartbeats 40000000 in
set_option maxRecDepth 100000 in
theorem tog_sum {w W0 : World} {g1 ab mb : Nat} {vw : Value} {sa : Option Addr} {sc : Nat} {ns : List Int} {t ub N9 : Nat} {pt : Nat → Option Nat} {us : Nat → RU} {s : MS} {va vb vc vd : Int} {Q : Exit → Act → World → Prop}
    {c0 c1 c2 c3 c4 c5 c6 c7 c8 c9 c10 c11 c14 c15 c17 c18 c19 c20 c21 c22 c23 c24 c25 c26 c27 c28 c29 c30 c31 c32 c33 c34 c35 c36 c37 c38 c39 c40 c41 c42 c43 c44 c45 c46 c47 c48 c49 c50 c51 c52 c53 c54 c55 c56 c57 c58 c59 c60 c61 c62 c63 c64 c65 c66 c67 c68 c69 c70 c71 c72 c73 c74 c75 c76 c77 c78 c79 c80 c81 c82 c83 c84 c85 c86 c87 c88 c89 c90 c91 c92 c93 c94 c95 c96 c97 c98 c99 c100 c101 c102 c103 c104 c105 c106 c107 c108 c109 c110 c111 c112 c113 c114 c115 c116 c117 c118 c119 c120 c121 c122 c123 c124 c125 c126 c127 c128 c129 c130 c131 c132 c133 c134 c135 c136 c137 c138 c139 c140 c141 c142 c143 c144 c145 c146 c147 c148 c149 c150 c151 c152 c153 c154 c155 c156 c157 c158 c159 c160 c161 c162 c163 c164 c165 c166 c167 c168 c169 c170 c171 c172 c173 c174 c175 c176 c177 c178 c179 c180 c181 c182 c183 c184 c185 c186 c187 c188 c189 c190 c191 c192 c193 c194 c195 c196 c197 c198 c199 c200 c201 c202 c203 c204 c205 c206 c207 c208 c209 c210 c211 c212 c213 c214 c215 c216 c217 c218 c219 c220 c221 c222 c223 c224 c225 c226 c227 c228 c229 c230 c231 c232 c233 c234 c235 c236 c237 : Value}
    (ht : t < 3) (hp : pt t = some ub) (hrd : (us t).read = [(0, va), (1, vb), (2, vc), (3, vd)]) (hsum : psum [va, vb, vc, vd] 4 = 40) (hl9 : ns.length + 1 ≤ 1000)
    (hst : Tog w g1 ab mb vw (.slice sa ns.length sc) ns pt us s N9 W0)
    (hQ : ∀ u22 u23 u179 u180 u181 u182 u183 u184 u185 u186 u187 u188 u189 u190 u191 u192 u193 u194 u195 u196 u197 u198 sa' sc' W', Tog w g1 ab mb vw (.slice sa' (ns ++ [40]).length sc') (ns ++ [40]) pt us s N9 W' → Q .normal ⟨#[c0, c1, c2, c3, c4, c5, c6, c7, c8, c9, c10, c11, .pointer (some ⟨ab, 0, none⟩), .slice sa' (ns ++ [40]).length sc', c14, c15, .int .i64 (t : Int), c17, c18, c19, c20, c21, u22, u23, c24, c25, c26, c27, c28, c29, c30, c31, c32, c33, c34, c35, c36, c37, c38, c39, c40, c41, c42, c43, c44, c45, c46, c47, c48, c49, c50, c51, c52, c53, c54, c55, c56, c57, c58, c59, c60, c61, c62, c63, c64, c65, c66, c67, c68, c69, c70, c71, c72, c73, c74, c75, c76, c77, c78, c79, c80, c81, c82, c83, c84, c85, c86, c87, c88, c89, c90, c91, c92, c93, c94, c95, c96, c97, c98, c99, c100, c101, c102, c103, c104, c105, c106, c107, c108, c109, c110, c111, c112, c113, c114, c115, c116, c117, c118, c119, c120, c121, c122, c123, c124, c125, c126, c127, c128, c129, c130, c131, c132, c133, c134, c135, c136, c137, c138, c139, c140, c141, c142, c143, c144, c145, c146, c147, c148, c149, c150, c151, c152, c153, c154, c155, c156, c157, c158, c159, c160, c161, c162, c163, c164, c165, c166, c167, c168, c169, c170, c171, c172, c173, c174, c175, c176, c177, c178, u179, u180, u181, u182, u183, u184, u185, u186, u187, u188, u189, u190, u191, u192, u193, u194, u195, u196, u197, u198, c199, c200, c201, c202, c203, c204, c205, c206, c207, c208, c209, c210, c211, c212, c213, c214, c215, c216, c217, c218, c219, c220, c221, c222, c223, c224, c225, c226, c227, c228, c229, c230, c231, c232, c233, c234, c235, c236, c237], []⟩ W') :
    Code.wp Try.prog tgSum Q ⟨#[c0, c1, c2, c3, c4, c5, c6, c7, c8, c9, c10, c11, .pointer (some ⟨ab, 0, none⟩), .slice sa ns.length sc, c14, c15, .int .i64 (t : Int), c17, c18, c19, c20, c21, c22, c23, c24, c25, c26, c27, c28, c29, c30, c31, c32, c33, c34, c35, c36, c37, c38, c39, c40, c41, c42, c43, c44, c45, c46, c47, c48, c49, c50, c51, c52, c53, c54, c55, c56, c57, c58, c59, c60, c61, c62, c63, c64, c65, c66, c67, c68, c69, c70, c71, c72, c73, c74, c75, c76, c77, c78, c79, c80, c81, c82, c83, c84, c85, c86, c87, c88, c89, c90, c91, c92, c93, c94, c95, c96, c97, c98, c99, c100, c101, c102, c103, c104, c105, c106, c107, c108, c109, c110, c111, c112, c113, c114, c115, c116, c117, c118, c119, c120, c121, c122, c123, c124, c125, c126, c127, c128, c129, c130, c131, c132, c133, c134, c135, c136, c137, c138, c139, c140, c141, c142, c143, c144, c145, c146, c147, c148, c149, c150, c151, c152, c153, c154, c155, c156, c157, c158, c159, c160, c161, c162, c163, c164, c165, c166, c167, c168, c169, c170, c171, c172, c173, c174, c175, c176, c177, c178, c179, c180, c181, c182, c183, c184, c185, c186, c187, c188, c189, c190, c191, c192, c193, c194, c195, c196, c197, c198, c199, c200, c201, c202, c203, c204, c205, c206, c207, c208, c209, c210, c211, c212, c213, c214, c215, c216, c217, c218, c219, c220, c221, c222, c223, c224, c225, c226, c227, c228, c229, c230, c231, c232, c233, c234, c235, c236, c237], []⟩ W0 := by
  have HTT := hid ht
  have HRD := hid hrd
  have HSUM := hid hsum
  have HL9 := hid hl9
  have HST := hid hst
  have HQ := hid hQ
  clear hrd hsum hl9 hst hQ ht
  conv => arg 2; whnf
  go_upto_block 4 with fail
  go_cut [22, 23] from 179 to 194 (fun v _ W => v = .int .i64 40 ∧ Tog w g1 ab mb vw (.slice sa ns.length sc) ns pt us s N9 W)
  case first =>
    as_aux_lemma =>
    go_wp2_with fail
    go_loopw [22, 23] (fun v y W => ∃ d : Nat, d ≤ 4 ∧ y = .int .i64 (d : Int) ∧ v = .int .i64 (psum [va, vb, vc, vd] d) ∧ Tog w g1 ab mb vw (.slice sa ns.length sc) ns pt us s N9 W) (fun _ y _ => 4 - (intOf y).toNat)
    case atStart => exact ⟨0, Nat.zero_le _, rfl, rfl, HST.out⟩
    case round =>
      clear HST
      obtain ⟨d, hd, rfl, rfl, hs⟩ := hrel
      have HS := hid hs
      clear hs
      by_cases hd4 : d < 4
      · have hpc := HS.out.ptc HTT.out
        rw [hp] at hpc
        have hq : wr.cell? ⟨ab, t, none⟩ = some (.pointer (some ⟨ub, 0, none⟩)) := hpc
        clear hpc
        obtain ⟨_, _, ⟨ra, rc, e5, hrow⟩, ef, el⟩ := HS.out.run HTT.out hp
        rw [HRD.out] at e5 hrow
        have e6 : wr.cell? ⟨ub, 5, none⟩ = some (.slice ra 4 rc) := e5
        obtain ⟨g, off, rfl, _, hcs⟩ := hrow.at (show 0 < 4 by decide)
        obtain ⟨_, c1⟩ := hcs d _ (row4 va vb vc vd hd4)
        have ef5 := ef 5
        clear ef e5 hrow hcs
        have hdi := q_i4 hd4
        have hd0 := q_0i d
        have hd1 := q_d1 hd4
        have HM4 := hid (q_m4 hd4)
        have HDD := hid (Nat.succ_le_of_lt hd4)
        have n1 : (0 : Int) ≤ (t : Int) := q_0i t
        have n2 : (t : Int) < 3 := t_i3 HTT.out
        have HPS := hid (show wrap64 (psum [va, vb, vc, vd] d + [va, vb, vc, vd].getD d 0) = psum [va, vb, vc, vd] (d + 1) from rfl)
        have c2 : wr.cell? ⟨g, off + d * 2 + 1, none⟩ = some (.int .i64 ([va, vb, vc, vd].getD d 0)) := c1
        clear c1
        generalize [va, vb, vc, vd].getD d 0 = pv at *
        generalize psum [va, vb, vc, vd] d = p0 at *
        obtain ⟨_, _, _, xfa, xla⟩ := HS.out.cells
        have xft := xfa t
        clear xfa hd hd4
        go_upto_region 36 with fail
        clear hq e6 ef5 el xft xla c2
        go_wp2_with fail
        go_roundw
        case rel => exact ⟨d + 1, HDD.out, by go_num, by rw [HPS.out], HS.out⟩
        case measure => first | (rw [hd1]; exact HM4.out) | exact HM4.out
      · have hdi := q_n4 hd4
        have HPE := hid (show psum [va, vb, vc, vd] d = 40 from by rw [q_eqn hd4 hd]; exact HSUM.out)
        generalize psum [va, vb, vc, vd] d = p0 at *
        clear hd hd4
        go_wp2_with fail
        go_meet
        case rel => exact ⟨by rw [HPE.out], HS.out⟩
  case rest =>
  as_aux_lemma =>
  clear HST
  obtain ⟨rfl, hs⟩ := hcut
  have HSA := hid (hs.later (bnew (bid _) (.cells #[.int .i64 40] 2)))
  have HON := hid (one_new wc)
  go_wp2_with (at_builtin; go_must (refine wpList_append_jl rfl (.tmp 195) (.tmp 197) rfl rfl HSA.out.sums [40] rfl HON.out rfl HL9.out HSA.out.below.size ?_); intro v' w' hj hw ho hn; have HS9 := hid (HSA.out.append hj hw ho); clear hj hw ho hn)
  obtain ⟨sa', sc', rfl, _⟩ := JL.form HS9.out.sums
  exact HQ.out _ _ _ _ _ _ _ _ _ _ _ _ _ _ _ _ _ _ _ _ _ _ _ _ _ HS9.out

end Go.Proofs.Ytjfinnjmcnjciaa

namespace Go.Proofs.Ytjfinnjmcnjciaa
open Go.RowKit
attribute [local go_sem] Later.cell Later.frozen

set_option maxHeartbeats 40000000 in
set_option maxRecDepth 100000 in
theorem tog_end {w W0 : World} {g1 ab mb : Nat} {vw : Value} {ck : Int} {len1 : Nat} {sv : Value} {nv : Value}
    {c0 c1 c2 c3 c4 c5 c6 c7 c10 c11 c14 c15 c16 c17 c18 c19 c20 c21 c22 c23 c24 c25 c26 c27 c28 c29 c30 c31 c32 c33 c34 c35 c36 c37 c38 c39 c40 c41 c42 c43 c44 c45 c46 c47 c48 c49 c50 c51 c52 c53 c54 c55 c56 c57 c58 c59 c60 c61 c62 c63 c64 c65 c66 c67 c68 c69 c70 c71 c72 c73 c74 c75 c76 c77 c78 c79 c80 c81 c82 c83 c84 c85 c86 c87 c88 c89 c90 c91 c92 c93 c94 c95 c96 c97 c98 c99 c100 c101 c102 c103 c104 c105 c106 c107 c108 c109 c110 c111 c112 c113 c114 c115 c116 c117 c118 c119 c120 c121 c122 c123 c124 c125 c126 c127 c128 c129 c130 c131 c132 c133 c134 c135 c136 c137 c138 c139 c140 c141 c142 c143 c144 c145 c146 c147 c148 c149 c150 c151 c152 c153 c154 c155 c156 c157 c158 c159 c160 c161 c162 c163 c164 c165 c166 c167 c168 c169 c170 c171 c172 c173 c174 c175 c176 c177 c178 c179 c180 c181 c182 c183 c184 c185 c186 c187 c188 c189 c190 c191 c192 c193 c194 c195 c196 c197 c198 c199 c200 c201 c202 c203 c204 c205 c206 c207 c208 c209 c210 c211 c212 c213 c214 c215 c216 c217 c218 c219 c220 c221 c222 c223 c224 c225 c226 c227 c228 c229 c230 c231 c232 c233 c234 c235 c236 c237 : Value}
    (hl1 : len1 ≤ 200) (htw : TW w g1 ab mb vw ck len1 (len1 + 300) nv sv W0) :
    Code.wp Try.prog tgEnd (bodyPost Try.prog Try.f12 (fun e W => ∃ v n, e = .returned (.tuple #[v, .bool true]) ∧ JL W w.heap.size v (List.replicate n 40) ∧ n ≤ 500 ∧ Below w.heap.size w W)) ⟨#[c0, c1, c2, c3, c4, c5, c6, c7, .pointer (some ⟨g1, 0, none⟩), .pointer (some ⟨mb, 0, none⟩), c10, c11, .pointer (some ⟨ab, 0, none⟩), sv, c14, c15, c16, c17, c18, c19, c20, c21, c22, c23, c24, c25, c26, c27, c28, c29, c30, c31, c32, c33, c34, c35, c36, c37, c38, c39, c40, c41, c42, c43, c44, c45, c46, c47, c48, c49, c50, c51, c52, c53, c54, c55, c56, c57, c58, c59, c60, c61, c62, c63, c64, c65, c66, c67, c68, c69, c70, c71, c72, c73, c74, c75, c76, c77, c78, c79, c80, c81, c82, c83, c84, c85, c86, c87, c88, c89, c90, c91, c92, c93, c94, c95, c96, c97, c98, c99, c100, c101, c102, c103, c104, c105, c106, c107, c108, c109, c110, c111, c112, c113, c114, c115, c116, c117, c118, c119, c120, c121, c122, c123, c124, c125, c126, c127, c128, c129, c130, c131, c132, c133, c134, c135, c136, c137, c138, c139, c140, c141, c142, c143, c144, c145, c146, c147, c148, c149, c150, c151, c152, c153, c154, c155, c156, c157, c158, c159, c160, c161, c162, c163, c164, c165, c166, c167, c168, c169, c170, c171, c172, c173, c174, c175, c176, c177, c178, c179, c180, c181, c182, c183, c184, c185, c186, c187, c188, c189, c190, c191, c192, c193, c194, c195, c196, c197, c198, c199, c200, c201, c202, c203, c204, c205, c206, c207, c208, c209, c210, c211, c212, c213, c214, c215, c216, c217, c218, c219, c220, c221, c222, c223, c224, c225, c226, c227, c228, c229, c230, c231, c232, c233, c234, c235, c236, c237], []⟩ W0 := by
  have HL1 := hid hl1
  clear hl1
  conv => arg 2; whnf
  obtain ⟨n, ns, pt, us, s, rfl, _, hnl, hrep, hti, htg⟩ := htw.ex
  have HTG := hid htg
  have HNL := hid (r_500 hnl HL1.out)
  have HRP := hid hrep
  have HSUM := hid (psum_dat hti.last.1)
  have HPH := hid hti.last.2
  have HFE := hid hti.ends
  clear htw htg hnl hrep hti
  obtain ⟨sa, sc, rfl, _⟩ := JL.form HTG.out.sums
  generalize 10 * (len1 + 300) = N9 at *
  go_upto_block 6 with fail
  go_cut [24] (fun v W => v = .int .i64 40 ∧ Tog w g1 ab mb vw (.slice sa ns.length sc) ns pt us s N9 W)
  case first =>
    as_aux_lemma =>
    go_wp2_with fail
    go_loopw [24, 25] (fun v y W => ∃ d : Nat, d ≤ 4 ∧ y = .int .i64 (d : Int) ∧ v = .int .i64 (psum (dat4 s) d) ∧ Tog w g1 ab mb vw (.slice sa ns.length sc) ns pt us s N9 W) (fun _ y _ => 4 - (intOf y).toNat)
    case atStart => exact ⟨0, Nat.zero_le _, rfl, rfl, HTG.out⟩
    case round =>
      clear HTG
      obtain ⟨d, hd, rfl, rfl, hs⟩ := hrel
      have HS := hid hs
      clear hs
      by_cases hd4 : d < 4
      · have HDA := hid (data_calls hd4)
        have hdi := q_i4 hd4
        have hd1 := q_d1 hd4
        have HM4 := hid (q_m4 hd4)
        have HDD := hid (Nat.succ_le_of_lt hd4)
        have HPK := hid (fun V (hv : Tog w g1 ab mb vw (.slice sa ns.length sc) ns pt us s N9 V) => (by have := hv.peek (dataP d); rw [dat4_at s hd4] at this; exact this : Calls Try.prog 21 #[.pointer (some ⟨mb, 0, none⟩), .int .i64 (dataP d)] V fun e W2 => e = .returned (.int .i64 ((dat4 s).getD d 0)) ∧ V = W2))
        have HPS := hid (show wrap64 (psum (dat4 s) d + (dat4 s).getD d 0) = psum (dat4 s) (d + 1) from rfl)
        generalize (dat4 s).getD d 0 = pv at *
        generalize psum (dat4 s) d = p0 at *
        obtain ⟨⟨x0, x1, x2, x3, x4⟩, xf, xl, _⟩ := HS.out.cells
        have xf0 := xf 0
        have xf1 := xf 1
        have xf2 := xf 2
        have xf3 := xf 3
        have xf4 := xf 4
        clear xf hd hd4
        go_upto_region 42 with (first | (go_at_call 20; go_must ((with_reducible refine (HDA.out _).mono ?_); rintro e w7 ⟨rfl, hb⟩; have HS7 := hid (HS.out.later hb); clear hb)) | (go_at_call 21; go_must ((with_reducible refine (HPK.out _ HS7.out).mono ?_); rintro e w8 ⟨rfl, rfl⟩)))
        clear HDA HPK x0 x1 x2 x3 x4 xf0 xf1 xf2 xf3 xf4 xl HS
        go_wp2_with fail
        go_roundw
        case rel => exact ⟨d + 1, HDD.out, by go_num, by rw [HPS.out], HS7.out⟩
        case measure => first | (rw [hd1]; exact HM4.out) | exact HM4.out
      · have hdi := q_n4 hd4
        have HPE := hid (show psum (dat4 s) d = 40 from by rw [q_eqn hd4 hd]; exact HSUM.out)
        generalize psum (dat4 s) d = p0 at *
        clear hd hd4
        go_wp2_with fail
        go_meet
        case rel => exact ⟨by rw [HPE.out], HS.out⟩
  case rest =>
  clear HTG
  obtain ⟨rfl, hs⟩ := hcut
  have HTG := hid hs
  clear hs
  go_upto_block 8 with fail
  go_cut [26] (fun y W => (∃ z : Int, y = .int .i64 z) ∧ Tog w g1 ab mb vw (.slice sa ns.length sc) ns pt us s N9 W)
  case first =>
    as_aux_lemma =>
    go_wp2_with fail
    go_loopw [26] (fun y W => ∃ t : Nat, t ≤ 3 ∧ y = .int .i64 (t : Int) ∧ Tog w g1 ab mb vw (.slice sa ns.length sc) ns pt us s N9 W) (fun y _ => 3 - (intOf y).toNat)
    case atStart => exact ⟨0, Nat.zero_le _, rfl, HTG.out⟩
    case round =>
      clear HTG
      obtain ⟨t, ht, rfl, hs⟩ := hrel
      have HS := hid hs
      clear hs
      by_cases ht3 : t < 3
      · have HDA := hid (thread_callsT ht3)
        have hti := q_i3 ht3
        have n1 : (0 : Int) ≤ (t : Int) := q_0i t
        have hd1 := q_d1 (Nat.lt_succ_of_lt ht3)
        have HM4 := hid (q_m3 ht3)
        have HDD := hid (Nat.succ_le_of_lt ht3)
        have HPK := hid (fun V (hv : Tog w g1 ab mb vw (.slice sa ns.length sc) ns pt us s N9 V) => (by have := hv.peek (11 + 2 * (t : Int)); rw [HPH.out t ht3] at this; exact this : Calls Try.prog 21 #[.pointer (some ⟨mb, 0, none⟩), .int .i64 (11 + 2 * (t : Int))] V fun e W2 => e = .returned (.int .i64 0) ∧ V = W2))
        have hft := HFE.out t ht3
        have hpc := HS.out.ptc ht3
        obtain ⟨⟨x0, x1, x2, x3, x4⟩, xf, xl, xfa, xla⟩ := HS.out.cells
        have xf0 := xf 0
        have xf1 := xf 1
        have xf2 := xf 2
        have xf3 := xf 3
        have xf4 := xf 4
        have xft := xfa t
        clear xf xfa
        cases hp : pt t with
        | none =>
          rw [hp] at hpc
          have hq : wr.cell? ⟨ab, t, none⟩ = some (.pointer none) := hpc
          clear hpc hft ht
          go_upto_region 46 with (first | (go_at_call 25; go_must ((with_reducible refine (HDA.out _).mono ?_); rintro e w7 ⟨rfl, hb⟩; have HS7 := hid (HS.out.later hb); clear hb)) | (go_at_call 21; go_must ((with_reducible refine (HPK.out _ HS7.out).mono ?_); rintro e w8 ⟨rfl, rfl⟩)))
          clear HDA HPK x0 x1 x2 x3 x4 xf0 xf1 xf2 xf3 xf4 xl HS hq xft xla
          go_wp2_with fail
          go_roundw
          case rel => exact ⟨t + 1, HDD.out, by go_num, HS7.out⟩
          case measure => first | (rw [hd1]; exact HM4.out) | exact HM4.out
        | some ub =>
          rw [hp] at hpc
          have hq : wr.cell? ⟨ab, t, none⟩ = some (.pointer (some ⟨ub, 0, none⟩)) := hpc
          clear hpc
          obtain ⟨_, e4, _, ef, el⟩ := HS.out.run ht3 hp
          have ef4 := ef 4
          have hfb : ((us t).fin == 0) = false := by simpa using hft
          clear ef ht
          go_upto_region 46 with (first | (go_at_call 25; go_must ((with_reducible refine (HDA.out _).mono ?_); rintro e w7 ⟨rfl, hb⟩; have HS7 := hid (HS.out.later hb); clear hb)) | (go_at_call 21; go_must ((with_reducible refine (HPK.out _ HS7.out).mono ?_); rintro e w8 ⟨rfl, rfl⟩)))
          clear HDA HPK x0 x1 x2 x3 x4 xf0 xf1 xf2 xf3 xf4 xl HS hq xft xla e4 ef4 el hfb hft
          go_wp2_with fail
          go_roundw
          case rel => exact ⟨t + 1, HDD.out, by go_num, HS7.out⟩
          case measure => first | (rw [hd1]; exact HM4.out) | exact HM4.out
      · have hdi := q_n3 ht3
        clear ht ht3
        go_wp2_with fail
        go_meet
        case rel => exact ⟨⟨_, rfl⟩, HS.out⟩
  case rest =>
  clear HTG
  obtain ⟨⟨z, rfl⟩, hs⟩ := hcut
  have HTG := hid hs
  clear hs
  go_wp2_with fail
  exact bodyPost_ret (v := .tuple #[.slice sa ns.length sc, .bool true]) (by simp [results, Try.results12, go_sem]) rfl ⟨_, ns.length, rfl, (by have h := HTG.out.sums; rw [HRP.out] at h; simpa using h), HNL.out, HTG.out.below⟩

end Go.Proofs.Ytjfinnjmcnjciaa

namespace Go.Proofs.Ytjfinnjmcnjciaa
open Go.RowKit
attribute [local go_sem] Later.cell Later.frozen

theorem q_n0 {l : Nat} (h : 0 < l) : (0 : Int) < (l : Int) := by omega
theorem q_nz {l : Nat} (h : 0 < l) : ¬ (l : Int) = 0 := by omega
theorem q_nb {l : Nat} (h : 0 < l) : ((l : Int) == 0) = false := by rw [beq_eq_false_iff_ne]; omega
theorem t_le {a b : Nat} (h : a ≤ b) : (a : Int) ≤ (b : Int) := by omega
theorem t_nle {a b : Nat} (h : ¬ a ≤ b) : ¬ (a : Int) ≤ (b : Int) := by omega
theorem t_w4 {g : Nat} (h : g < 3) : wrap64 ((g : Int) + 1) = ((g + 1 : Nat) : Int) := by unfold wrap64; omega
theorem t_nlt {a b : Nat} (h : a ≤ b) : a ≠ b + 1 := by omega
theorem t_ngt {a b : Nat} (h : ¬ a ≤ b) : a ≠ b := by omega
theorem t_neg {k : Nat} (h : k < 5) : wrap64 (-(k : Int)) = -(k : Int) := by unfold wrap64; omega
theorem t_n1 {n i : Nat} (h : n ≤ i) (hi : i ≤ 900) : wrap64 ((n : Int) + 1) = ((n + 1 : Nat) : Int) := by unfold wrap64; omega
theorem fset_fset {α : Type} (f : Nat → α) (k : Nat) (x y : α) : fset (fset f k x) k y = fset f k y := by
  funext j
  by_cases e : j = k
  · subst e; rw [fset_at, fset_at]
  · rw [fset_ne _ _ e, fset_ne _ _ e, fset_ne _ _ e]
theorem TI.len {ck : Int} {L i : Nat} {pt : Nat → Option Nat} {us : Nat → RU} {s : MS} (h : TI ck L i pt us s) : s.zs.length = 34 := by
  obtain ⟨A, H, Hc, hs⟩ := h.sim
  exact hs.wds.len
/-- The new run is picked. -/
theorem TU.fresh {w W : World} {g1 ab mb : Nat} {vw sv : Value} {ck : Int} {L i t n ub : Nat} {ns : List Int} {pt : Nat → Option Nat} {us : Nat → RU} {s : MS} {pl : Pl} (hn : n ≤ i + 1) (hpl : PlanOk pl) (hp0 : t = 0 → pl = PR) (ht : t < 3) (hi : i ≤ 900) (htn : L ≤ i → i % 3 = t)
    (hbw : pt t = none ∨ (us t).fin ≠ 0 ∧ i < L) (hti : TI ck L i pt us s) (htg : Tog w g1 ab mb vw sv ns (fset pt t (some ub)) (fset us t (RU.new t ck pl)) s (10 * i) W) : TU w g1 ab mb vw ck L i t ns (.int .i64 (n : Int)) sv W := by
  refine ⟨n, ub, fset pt t (some ub), fset us t (RU.new t ck pl), s, rfl, hn, fset_at _ _ _, ?_, ?_, htg⟩
  · rw [fset_at]
    exact RU.new_pick3 t ck hpl hti.len
  · rw [fset_at, fset_fset]
    exact hti.begin ht hi hpl hp0 hbw ub htn

set_option maxHeartbeats 40000000 in
set_option maxRecDepth 100000 in
theorem tog_r25 {W : World} {Q : Exit → Act → World → Prop} {z0 : Int} {f g4 kk : Nat} {c0 c1 c2 c3 c4 c5 c6 c7 c8 c9 c10 c11 c12 c13 c14 c15 c16 c17 c21 c22 c23 c24 c25 c26 c27 c28 c29 c30 c31 c32 c33 c34 c35 c36 c37 c38 c39 c40 c41 c42 c43 c44 c45 c46 c47 c48 c49 c50 c51 c52 c53 c54 c55 c56 c57 c58 c59 c60 c61 c62 c63 c64 c65 c66 c67 c68 c69 c70 c71 c72 c73 c74 c75 c76 c77 c78 c79 c80 c81 c82 c83 c84 c85 c86 c87 c88 c89 c90 c91 c92 c93 c94 c95 c96 c97 c98 c99 c100 c101 c102 c103 c104 c105 c106 c107 c108 c109 c110 c111 c112 c113 c114 c115 c116 c117 c118 c119 c120 c121 c122 c123 c124 c125 c126 c127 c128 c129 c130 c131 c132 c133 c134 c135 c136 c137 c138 c139 c140 c141 c142 c143 c144 c145 c146 c147 c148 c149 c150 c151 c152 c153 c154 c155 c156 c157 c158 c159 c160 c161 c162 c163 c164 c165 c166 c167 c168 c169 c170 c171 c172 c173 c174 c175 c176 c177 c178 c179 c180 c181 c182 c183 c184 c185 c186 c187 c188 c189 c190 c191 c192 c193 c194 c195 c196 c197 c198 c199 c200 c201 c202 c203 c204 c205 c206 c207 c208 c209 c210 c211 c212 c213 c214 c215 c216 c217 c218 c219 c220 c221 c222 c223 c224 c225 c226 c227 c228 c229 c230 c231 c232 c233 c234 c235 c236 c237 : Value}
    (hk4 : kk < 5) (hk : Hid (wrap64 ((IntKind.u64.wrap ((IntKind.u64.wrap z0).tdiv 12)).tmod 5) = (kk : Int)))
    (hQ : ∀ u115 u116 u117 u118 u119 u120 u121 u122 u123 u124 u125 u126 u127 u128 u129 u130 u131 u132, Q .normal ⟨#[c0, c1, c2, c3, c4, c5, c6, c7, c8, c9, c10, c11, c12, c13, c14, c15, c16, .slice (some ⟨W.heap.size, 0, none⟩) 4 4, .int .u64 (IntKind.u64.wrap z0), .int .i64 (f : Int), .int .i64 (g4 : Int), c21, c22, c23, c24, c25, c26, c27, c28, c29, c30, c31, c32, c33, c34, c35, c36, c37, c38, c39, c40, c41, c42, c43, c44, c45, c46, c47, c48, c49, c50, c51, c52, c53, c54, c55, c56, c57, c58, c59, c60, c61, c62, c63, c64, c65, c66, c67, c68, c69, c70, c71, c72, c73, c74, c75, c76, c77, c78, c79, c80, c81, c82, c83, c84, c85, c86, c87, c88, c89, c90, c91, c92, c93, c94, c95, c96, c97, c98, c99, c100, c101, c102, c103, c104, c105, c106, c107, c108, c109, c110, c111, c112, c113, c114, u115, u116, u117, u118, u119, u120, u121, u122, u123, u124, u125, u126, u127, u128, u129, u130, u131, u132, c133, c134, c135, c136, c137, c138, c139, c140, c141, c142, c143, c144, c145, c146, c147, c148, c149, c150, c151, c152, c153, c154, c155, c156, c157, c158, c159, c160, c161, c162, c163, c164, c165, c166, c167, c168, c169, c170, c171, c172, c173, c174, c175, c176, c177, c178, c179, c180, c181, c182, c183, c184, c185, c186, c187, c188, c189, c190, c191, c192, c193, c194, c195, c196, c197, c198, c199, c200, c201, c202, c203, c204, c205, c206, c207, c208, c209, c210, c211, c212, c213, c214, c215, c216, c217, c218, c219, c220, c221, c222, c223, c224, c225, c226, c227, c228, c229, c230, c231, c232, c233, c234, c235, c236, c237], []⟩ (W.alloc (.cells #[.int .i64 0, .int .i64 (f : Int), .int .i64 0, .int .i64 0, .int .i64 (g4 : Int), .int .i64 0, .int .i64 1, .int .i64 (f : Int), .int .i64 (-(kk : Int)), .int .i64 1, .int .i64 (g4 : Int), .int .i64 (kk : Int)] 88))) :
    Code.wp Try.prog tgR25 Q ⟨#[c0, c1, c2, c3, c4, c5, c6, c7, c8, c9, c10, c11, c12, c13, c14, c15, c16, c17, .int .u64 (IntKind.u64.wrap z0), .int .i64 (f : Int), .int .i64 (g4 : Int), c21, c22, c23, c24, c25, c26, c27, c28, c29, c30, c31, c32, c33, c34, c35, c36, c37, c38, c39, c40, c41, c42, c43, c44, c45, c46, c47, c48, c49, c50, c51, c52, c53, c54, c55, c56, c57, c58, c59, c60, c61, c62, c63, c64, c65, c66, c67, c68, c69, c70, c71, c72, c73, c74, c75, c76, c77, c78, c79, c80, c81, c82, c83, c84, c85, c86, c87, c88, c89, c90, c91, c92, c93, c94, c95, c96, c97, c98, c99, c100, c101, c102, c103, c104, c105, c106, c107, c108, c109, c110, c111, c112, c113, c114, c115, c116, c117, c118, c119, c120, c121, c122, c123, c124, c125, c126, c127, c128, c129, c130, c131, c132, c133, c134, c135, c136, c137, c138, c139, c140, c141, c142, c143, c144, c145, c146, c147, c148, c149, c150, c151, c152, c153, c154, c155, c156, c157, c158, c159, c160, c161, c162, c163, c164, c165, c166, c167, c168, c169, c170, c171, c172, c173, c174, c175, c176, c177, c178, c179, c180, c181, c182, c183, c184, c185, c186, c187, c188, c189, c190, c191, c192, c193, c194, c195, c196, c197, c198, c199, c200, c201, c202, c203, c204, c205, c206, c207, c208, c209, c210, c211, c212, c213, c214, c215, c216, c217, c218, c219, c220, c221, c222, c223, c224, c225, c226, c227, c228, c229, c230, c231, c232, c233, c234, c235, c236, c237], []⟩ W := by
  have HQ := hid hQ
  have HKN := hid (t_neg hk4)
  clear hQ hk4
  conv => arg 2; whnf
  go_wp2_with fail
  rw [hk.out, HKN.out]
  exact HQ.out _ _ _ _ _ _ _ _ _ _ _ _ _ _ _ _ _ _ 
set_option maxHeartbeats 40000000 in
set_option maxRecDepth 100000 in
theorem tog_new {w W0 : World} {g1 ab mb : Nat} {vw : Value} {ck : Int} {a1 : Option Addr} {len1 cap1 : Nat} {a2 : Option Addr} {len2 cap2 : Nat} {ms : List Int} {sa : Option Addr} {sc : Nat} {ns : List Int} {n i t : Nat} {pt : Nat → Option Nat} {us : Nat → RU} {s : MS} {Q : Exit → Act → World → Prop}
    {c3 c4 c5 c6 c7 c10 c11 c17 c18 c19 c20 c21 c22 c23 c24 c25 c26 c27 c28 c29 c30 c31 c32 c33 c34 c35 c36 c37 c38 c39 c40 c41 c42 c43 c44 c45 c46 c47 c48 c49 c50 c51 c52 c53 c54 c55 c56 c57 c58 c59 c60 c61 c62 c63 c64 c65 c66 c67 c68 c69 c70 c71 c72 c73 c74 c75 c76 c77 c78 c79 c80 c81 c82 c83 c84 c85 c86 c87 c88 c89 c90 c91 c92 c93 c94 c95 c96 c97 c98 c99 c100 c101 c102 c103 c104 c105 c106 c107 c108 c109 c110 c111 c112 c113 c114 c115 c116 c117 c118 c119 c120 c121 c122 c123 c124 c125 c126 c127 c128 c129 c130 c131 c132 c133 c134 c135 c136 c137 c138 c139 c140 c141 c142 c143 c144 c145 c146 c147 c148 c149 c150 c151 c152 c153 c154 c155 c156 c157 c158 c159 c160 c161 c162 c163 c164 c165 c166 c167 c168 c169 c170 c171 c172 c173 c174 c175 c176 c177 c178 c179 c180 c181 c182 c183 c184 c185 c186 c187 c188 c189 c190 c191 c192 c193 c194 c195 c196 c197 c198 c199 c200 c201 c202 c203 c204 c205 c206 c207 c208 c209 c210 c211 c212 c213 c214 c215 c216 c217 c218 c219 c220 c221 c222 c223 c224 c225 c226 c227 c228 c229 c230 c231 c232 c233 c234 c235 c236 c237 : Value}
    (hck : ck = 1 ∨ ck = 2) (hr2 : IntRow w a2 len2 ms) (hl1 : len1 ≤ 200) (hl2 : len2 ≤ 50) (hn : n ≤ i) (hi : i < len1 + 300) (ht : t < 3) (htn : len1 ≤ i → i % 3 = t)
    (hbw : pt t = none ∨ (us t).fin ≠ 0 ∧ i < len1) (hti : TI ck len1 i pt us s) (htg : Tog w g1 ab mb vw (.slice sa ns.length sc) ns pt us s (10 * i) W0)
    (hQ : ∀ u17 u18 u19 u20 u83 u84 u85 u86 u87 u88 u89 u90 u91 u92 u93 u94 u95 u96 u97 u98 u99 u100 u101 u102 u103 u104 u105 u106 u107 u108 u109 u110 u111 u112 u113 u114 u115 u116 u117 u118 u119 u120 u121 u122 u123 u124 u125 u126 u127 u128 u129 u130 u131 u132 u133 u134 u135 u136 u137 u138 u139 u140 u141 u142 u143 u144 u145 u146 u147 u148 u149 nv W', TU w g1 ab mb vw ck len1 i t ns nv (.slice sa ns.length sc) W' → Q .normal ⟨#[.int .i64 ck, .slice a1 len1 cap1, .slice a2 len2 cap2, c3, c4, c5, c6, c7, .pointer (some ⟨g1, 0, none⟩), .pointer (some ⟨mb, 0, none⟩), c10, c11, .pointer (some ⟨ab, 0, none⟩), .slice sa ns.length sc, nv, .int .i64 (i : Int), .int .i64 (t : Int), u17, u18, u19, u20, c21, c22, c23, c24, c25, c26, c27, c28, c29, c30, c31, c32, c33, c34, c35, c36, c37, c38, c39, c40, c41, c42, c43, c44, c45, c46, c47, c48, c49, c50, c51, c52, c53, c54, c55, c56, c57, c58, c59, c60, c61, c62, c63, c64, c65, c66, c67, c68, c69, c70, c71, c72, c73, c74, c75, c76, c77, c78, c79, c80, c81, c82, u83, u84, u85, u86, u87, u88, u89, u90, u91, u92, u93, u94, u95, u96, u97, u98, u99, u100, u101, u102, u103, u104, u105, u106, u107, u108, u109, u110, u111, u112, u113, u114, u115, u116, u117, u118, u119, u120, u121, u122, u123, u124, u125, u126, u127, u128, u129, u130, u131, u132, u133, u134, u135, u136, u137, u138, u139, u140, u141, u142, u143, u144, u145, u146, u147, u148, u149, c150, c151, c152, c153, c154, c155, c156, c157, c158, c159, c160, c161, c162, c163, c164, c165, c166, c167, c168, c169, c170, c171, c172, c173, c174, c175, c176, c177, c178, c179, c180, c181, c182, c183, c184, c185, c186, c187, c188, c189, c190, c191, c192, c193, c194, c195, c196, c197, c198, c199, c200, c201, c202, c203, c204, c205, c206, c207, c208, c209, c210, c211, c212, c213, c214, c215, c216, c217, c218, c219, c220, c221, c222, c223, c224, c225, c226, c227, c228, c229, c230, c231, c232, c233, c234, c235, c236, c237], []⟩ W') :
    Code.wp Try.prog tgNew Q ⟨#[.int .i64 ck, .slice a1 len1 cap1, .slice a2 len2 cap2, c3, c4, c5, c6, c7, .pointer (some ⟨g1, 0, none⟩), .pointer (some ⟨mb, 0, none⟩), c10, c11, .pointer (some ⟨ab, 0, none⟩), .slice sa ns.length sc, .int .i64 (n : Int), .int .i64 (i : Int), .int .i64 (t : Int), c17, c18, c19, c20, c21, c22, c23, c24, c25, c26, c27, c28, c29, c30, c31, c32, c33, c34, c35, c36, c37, c38, c39, c40, c41, c42, c43, c44, c45, c46, c47, c48, c49, c50, c51, c52, c53, c54, c55, c56, c57, c58, c59, c60, c61, c62, c63, c64, c65, c66, c67, c68, c69, c70, c71, c72, c73, c74, c75, c76, c77, c78, c79, c80, c81, c82, c83, c84, c85, c86, c87, c88, c89, c90, c91, c92, c93, c94, c95, c96, c97, c98, c99, c100, c101, c102, c103, c104, c105, c106, c107, c108, c109, c110, c111, c112, c113, c114, c115, c116, c117, c118, c119, c120, c121, c122, c123, c124, c125, c126, c127, c128, c129, c130, c131, c132, c133, c134, c135, c136, c137, c138, c139, c140, c141, c142, c143, c144, c145, c146, c147, c148, c149, c150, c151, c152, c153, c154, c155, c156, c157, c158, c159, c160, c161, c162, c163, c164, c165, c166, c167, c168, c169, c170, c171, c172, c173, c174, c175, c176, c177, c178, c179, c180, c181, c182, c183, c184, c185, c186, c187, c188, c189, c190, c191, c192, c193, c194, c195, c196, c197, c198, c199, c200, c201, c202, c203, c204, c205, c206, c207, c208, c209, c210, c211, c212, c213, c214, c215, c216, c217, c218, c219, c220, c221, c222, c223, c224, c225, c226, c227, c228, c229, c230, c231, c232, c233, c234, c235, c236, c237], []⟩ W0 := by
  have HCK := hid hck
  have HR2 := hid hr2
  have HL1 := hid hl1
  have HL2 := hid hl2
  have HN := hid hn
  have HLT := hid hi
  have HTT := hid ht
  have HTN := hid htn
  have HBW := hid hbw
  have HTI := hid hti
  have HTG := hid htg
  have HQ := hid hQ
  have HNW := hid (fun (t : Nat) (ht : t < 3) (W : World) (ρ : Nat → Nat) => New15_any t ck W ρ (12 * t) ht hck)
  clear hck hr2 hl1 hl2 hn hi ht htn hbw hti htg hQ
  conv => arg 2; whnf
  go_upto_region 20 with fail
  have HPL := hid (HTG.out.plan t (pl := PR) (cs := #[.int .i64 0, .int .i64 0, .int .i64 0, .int .i64 0, .int .i64 1, .int .i64 0, .int .i64 0, .int .i64 2, .int .i64 0, .int .i64 0, .int .i64 3, .int .i64 0]) rfl)
  refine wp_renamed (fun W => ∃ ρ, TogP w g1 ab mb vw (.slice sa ns.length sc) ns pt us s (10 * i) t W0.heap.size PR ρ W) HPL.out ?_
  generalize W0.heap.size = pb0
  clear HPL HTG
  rintro W ⟨ρ, htp⟩
  have HTP := hid htp
  clear htp
  go_cut [94] from 88 to 94 (fun v W2 => ∃ b : Bool, v = .bool b ∧ (b = true → t ≠ 0 ∧ 0 < len2) ∧ Below W.heap.size W W2)
  case first =>
    as_aux_lemma =>
    by_cases t0 : t = 0
    · subst t0
      go_wp2_with fail
      go_meet
      case rel => exact ⟨false, rfl, fun h => (by cases h), bid _⟩
    · have t1 : (0 : Int) < (t : Int) := t_pos t0
      by_cases l0 : 0 < len2
      · have l1 : (0 : Int) < (len2 : Int) := q_n0 l0
        go_wp2_with fail
        go_meet
        case rel => exact ⟨true, rfl, fun _ => ⟨t0, l0⟩, bid _⟩
      · have l1 : ¬ (0 : Int) < (len2 : Int) := t_npos l0
        go_wp2_with fail
        go_meet
        case rel => exact ⟨false, rfl, fun h => (by cases h), bid _⟩
  case rest =>
  obtain ⟨b, rfl, hb1, hb⟩ := hcut
  have HTQ := hid (HTP.out.later hb)
  have HBC := hid hb1
  clear hb1 hb HTP
  go_upto_if 94 with fail
  go_cut [17, 14, 18, 19, 20] from 95 to 134 (fun pv nv _ _ _ W2 => ∃ (pb n' : Nat) (pl : Pl) (ρ : Nat → Nat), pv = .slice (some ⟨pb, 0, none⟩) 4 4 ∧ nv = .int .i64 (n' : Int) ∧ n' ≤ i + 1 ∧ pl.length = 4 ∧ PlanOk pl ∧ (t = 0 → pl = PR) ∧ TogP w g1 ab mb vw (.slice sa ns.length sc) ns pt us s (10 * i) t pb pl ρ W2)
  case first =>
    cases b with
    | false =>
      as_aux_lemma =>
      go_wp2_with fail
      go_meet
      case rel => exact ⟨pb0, n, PR, ρ, rfl, rfl, Nat.le_succ_of_le HN.out, rfl, .reads, fun _ => rfl, HTQ.out⟩
    | true =>
      as_aux_lemma =>
      obtain ⟨t0, l0⟩ := HBC.out rfl
      have HT0 := hid t0
      obtain ⟨m, hm, hml⟩ : ∃ m : Nat, (n : Int).tmod (len2 : Int) = (m : Int) ∧ m < len2 := t_tmod n l0
      obtain ⟨g, off, rfl, _, hc⟩ := (HR2.out.below HTQ.out.tog.below).at l0
      have c0 := hc m hml
      have n1 : (0 : Int) ≤ (m : Int) := q_0i m
      have n2 : (m : Int) < (len2 : Int) := q_in hml
      have n3 : ¬ (len2 : Int) = 0 := q_nz l0
      have n4 : ((len2 : Int) == 0) = false := q_nb l0
      have n5 : wrap64 (m : Int) = (m : Int) := t_wrm hml HL2.out
      generalize ms.getD m 0 = z0 at *
      clear hc hml l0 t0 HBC
      obtain ⟨f, hf, HF⟩ := mod_hid z0 4 4 rfl (by decide) (by decide)
      obtain ⟨g3, hg3, HG⟩ := mod_hid ((IntKind.u64.wrap z0).tdiv 4) 3 3 rfl (by decide) (by decide)
      obtain ⟨kk, hkk, HK⟩ := mod_hid ((IntKind.u64.wrap z0).tdiv 12) 5 5 rfl (by decide) (by decide)
      go_upto_region 22 with fail
      clear hm c0 n1 n2 n3 n4 n5
      go_upto_region 23 with fail
      rw [HF.out, HG.out]
      clear HF HG
      have HK4 := hid hkk
      clear hkk
      go_upto_if 112 with fail
      go_cut [20] from 110 to 114 (fun gv W2 => ∃ g4 : Nat, gv = .int .i64 (g4 : Int) ∧ g4 < 4 ∧ f ≠ g4 ∧ Below wc.heap.size wc W2)
      case first =>
        as_aux_lemma =>
        by_cases hle : f ≤ g3
        · have e1 : (f : Int) ≤ (g3 : Int) := t_le hle
          have e2 := t_w4 hg3
          go_wp2_with fail
          go_meet
          case rel => exact ⟨g3 + 1, by first | rfl | go_num, Nat.succ_lt_succ hg3, t_nlt hle, bid _⟩
        · have e1 : ¬ (f : Int) ≤ (g3 : Int) := t_nle hle
          go_wp2_with fail
          go_meet
          case rel => exact ⟨g3, rfl, Nat.lt_succ_of_lt hg3, t_ngt hle, bid _⟩
      case rest =>
      as_aux_lemma =>
      obtain ⟨g4, rfl, hg4, hfg, hb⟩ := hcut
      have HFG := hid (And.intro hf (And.intro hg4 hfg))
      have HTR := hid (HTQ.out.later hb)
      clear hb hf hg4 hfg hg3 HTQ
      have hN1 := t_n1 HN.out (r_le HLT.out HL1.out)
      go_upto_region 25 with fail
      refine tog_r25 HK4.out HK ?_
      intro u115 u116 u117 u118 u119 u120 u121 u122 u123 u124 u125 u126 u127 u128 u129 u130 u131 u132
      clear HK HK4
      have HPL2 := hid (HTR.out.tog.plan t (pl := PW f g4 (kk : Int)) (cs := #[.int .i64 0, .int .i64 (f : Int), .int .i64 0, .int .i64 0, .int .i64 (g4 : Int), .int .i64 0, .int .i64 1, .int .i64 (f : Int), .int .i64 (-(kk : Int)), .int .i64 1, .int .i64 (g4 : Int), .int .i64 (kk : Int)]) rfl)
      clear HTR
      go_wp2_with fail
      go_meet
      case rel =>
        obtain ⟨ρ', hp'⟩ := HPL2.out
        exact ⟨_, n + 1, PW f g4 (kk : Int), ρ', rfl, by first | rfl | go_num, Nat.succ_le_succ HN.out, rfl, .moves f g4 _ HFG.out.1 HFG.out.2.1 HFG.out.2.2, fun h => absurd h HT0.out, hp'⟩
  case rest =>
    obtain ⟨pb, n', pl, ρ2, rfl, rfl, hn', hl4, hpl, hp0, htp⟩ := hcut
    have HN' := hid hn'
    have HL4 := hid hl4
    have HPL := hid hpl
    have HP0 := hid hp0
    have HTP := hid htp
    clear hn' hl4 hpl hp0 htp HTQ HBC HR2 HL2 HN
    as_aux_lemma =>
    have HN3 := hid (fun W => HNW.out t HTT.out W ρ2)
    clear HNW
    have n1 : (0 : Int) ≤ (t : Int) := q_0i t
    have n2 : (t : Int) < 3 := t_i3 HTT.out
    go_upto_region 28 with (go_at_call 46; go_must ((with_reducible refine (HN3.out _).mono ?_); rintro e w5 ⟨xb, ρ3, l, rfl, hge, hgr, hx, hb⟩; have HX := hid (And.intro hgr (And.intro hx hb)); have HF5 := hid (HTP.out.later hb); obtain ⟨_, _, _, xfa, xla⟩ := HF5.out.tog.cells; have xft := xfa t; have xcl := HF5.out.tog.ptc HTT.out; clear hge hgr hx hb xfa))
    have xla5 := xla
    clear xft xcl xla HF5 HN3
    have HNT := hid (TogP.new (c := 4) HTT.out HTP.out (by rw [HL4.out]; decide) (by rw [HL4.out]; decide) HX.out.1 HX.out.2.1 HX.out.2.2)
    rw [HL4.out, World.setCell_alloc_past _ ab t _ xla5] at HNT
    clear HTP HX
    refine wp_renamed (fun W => Tog w g1 ab mb vw (.slice sa ns.length sc) ns (fset pt t (some w5.heap.size)) (fset us t (RU.new t ck pl)) s (10 * i) W) HNT.out ?_
    generalize w5.heap.size = ub
    clear HNT
    intro W8 htg
    have HT8 := hid htg
    have HU := hid (TU.fresh HN'.out HPL.out HP0.out HTT.out (r_le HLT.out HL1.out) HTN.out HBW.out HTI.out htg)
    have hpc := htg.ptc HTT.out
    rw [fset_at] at hpc
    have hq : W8.cell? ⟨ab, t, none⟩ = some (.pointer (some ⟨ub, 0, none⟩)) := hpc
    obtain ⟨⟨xb2, e0⟩, _, _, ef, el⟩ := htg.run HTT.out (fset_at _ _ _)
    have ef0 := ef 0
    clear ef hpc htg HT8 HTI HBW HTN HP0 HPL
    go_wp2_with fail
    exact HQ.out _ _ _ _ _ _ _ _ _ _ _ _ _ _ _ _ _ _ _ _ _ _ _ _ _ _ _ _ _ _ _ _ _ _ _ _ _ _ _ _ _ _ _ _ _ _ _ _ _ _ _ _ _ _ _ _ _ _ _ _ _ _ _ _ _ _ _ _ _ _ _ _ _ HU.out

end Go.Proofs.Ytjfinnjmcnjciaa

namespace Go.Proofs.Ytjfinnjmcnjciaa
open Go.RowKit
attribute [local go_sem] Later.cell Later.frozen

set_option maxHeartbeats 40000000 in
set_option maxRecDepth 100000 in
theorem tog_blk {w W0 : World} {g1 ab mb : Nat} {vw : Value} {ck : Int} {a1 : Option Addr} {len1 cap1 : Nat} {ls : List Int} {a2 : Option Addr} {len2 cap2 : Nat} {ms : List Int} {nv0 sv0 : Value} {Q : Exit → Act → World → Prop}
    {c3 c4 c5 c6 c7 c10 c11 c16 c17 c18 c19 c20 c21 c22 c23 c24 c25 c26 c27 c28 c29 c30 c31 c32 c33 c34 c35 c36 c37 c38 c39 c40 c41 c42 c43 c44 c45 c46 c47 c48 c49 c50 c51 c52 c53 c54 c55 c56 c57 c58 c59 c60 c61 c62 c63 c64 c65 c66 c67 c68 c69 c70 c71 c72 c73 c74 c75 c76 c77 c78 c79 c80 c81 c82 c83 c84 c85 c86 c87 c88 c89 c90 c91 c92 c93 c94 c95 c96 c97 c98 c99 c100 c101 c102 c103 c104 c105 c106 c107 c108 c109 c110 c111 c112 c113 c114 c115 c116 c117 c118 c119 c120 c121 c122 c123 c124 c125 c126 c127 c128 c129 c130 c131 c132 c133 c134 c135 c136 c137 c138 c139 c140 c141 c142 c143 c144 c145 c146 c147 c148 c149 c150 c151 c152 c153 c154 c155 c156 c157 c158 c159 c160 c161 c162 c163 c164 c165 c166 c167 c168 c169 c170 c171 c172 c173 c174 c175 c176 c177 c178 c179 c180 c181 c182 c183 c184 c185 c186 c187 c188 c189 c190 c191 c192 c193 c194 c195 c196 c197 c198 c199 c200 c201 c202 c203 c204 c205 c206 c207 c208 c209 c210 c211 c212 c213 c214 c215 c216 c217 c218 c219 c220 c221 c222 c223 c224 c225 c226 c227 c228 c229 c230 c231 c232 c233 c234 c235 c236 c237 : Value}
    (hck : ck = 1 ∨ ck = 2) (hr1 : IntRow w a1 len1 ls) (hr2 : IntRow w a2 len2 ms) (hl1 : len1 ≤ 200) (hl2 : len2 ≤ 50) (htw : TW w g1 ab mb vw ck len1 0 nv0 sv0 W0)
    (hQ : ∀ u6 u7 u15 u16 u17 u18 u19 u20 u21 u22 u23 u44 u45 u46 u47 u48 u49 u50 u51 u52 u53 u54 u55 u56 u57 u58 u59 u60 u61 u62 u63 u64 u65 u66 u67 u68 u69 u70 u71 u72 u73 u74 u75 u76 u77 u78 u79 u80 u81 u82 u83 u84 u85 u86 u87 u88 u89 u90 u91 u92 u93 u94 u95 u96 u97 u98 u99 u100 u101 u102 u103 u104 u105 u106 u107 u108 u109 u110 u111 u112 u113 u114 u115 u116 u117 u118 u119 u120 u121 u122 u123 u124 u125 u126 u127 u128 u129 u130 u131 u132 u133 u134 u135 u136 u137 u138 u139 u140 u141 u142 u143 u144 u145 u146 u147 u148 u149 u150 u151 u152 u153 u154 u155 u156 u157 u158 u159 u160 u161 u162 u163 u164 u165 u166 u167 u168 u169 u170 u171 u172 u173 u174 u175 u176 u177 u178 u179 u180 u181 u182 u183 u184 u185 u186 u187 u188 u189 u190 u191 u192 u193 u194 u195 u196 u197 u198 nv sv W', TW w g1 ab mb vw ck len1 (len1 + 300) nv sv W' → Q .normal ⟨#[.int .i64 ck, .slice a1 len1 cap1, .slice a2 len2 cap2, c3, c4, c5, u6, u7, .pointer (some ⟨g1, 0, none⟩), .pointer (some ⟨mb, 0, none⟩), c10, c11, .pointer (some ⟨ab, 0, none⟩), sv, nv, u15, u16, u17, u18, u19, u20, u21, u22, u23, c24, c25, c26, c27, c28, c29, c30, c31, c32, c33, c34, c35, c36, c37, c38, c39, c40, c41, c42, c43, u44, u45, u46, u47, u48, u49, u50, u51, u52, u53, u54, u55, u56, u57, u58, u59, u60, u61, u62, u63, u64, u65, u66, u67, u68, u69, u70, u71, u72, u73, u74, u75, u76, u77, u78, u79, u80, u81, u82, u83, u84, u85, u86, u87, u88, u89, u90, u91, u92, u93, u94, u95, u96, u97, u98, u99, u100, u101, u102, u103, u104, u105, u106, u107, u108, u109, u110, u111, u112, u113, u114, u115, u116, u117, u118, u119, u120, u121, u122, u123, u124, u125, u126, u127, u128, u129, u130, u131, u132, u133, u134, u135, u136, u137, u138, u139, u140, u141, u142, u143, u144, u145, u146, u147, u148, u149, u150, u151, u152, u153, u154, u155, u156, u157, u158, u159, u160, u161, u162, u163, u164, u165, u166, u167, u168, u169, u170, u171, u172, u173, u174, u175, u176, u177, u178, u179, u180, u181, u182, u183, u184, u185, u186, u187, u188, u189, u190, u191, u192, u193, u194, u195, u196, u197, u198, c199, c200, c201, c202, c203, c204, c205, c206, c207, c208, c209, c210, c211, c212, c213, c214, c215, c216, c217, c218, c219, c220, c221, c222, c223, c224, c225, c226, c227, c228, c229, c230, c231, c232, c233, c234, c235, c236, c237], []⟩ W') :
    Code.wp Try.prog tgBlk Q ⟨#[.int .i64 ck, .slice a1 len1 cap1, .slice a2 len2 cap2, c3, c4, c5, c6, c7, .pointer (some ⟨g1, 0, none⟩), .pointer (some ⟨mb, 0, none⟩), c10, c11, .pointer (some ⟨ab, 0, none⟩), sv0, nv0, .int .i64 0, c16, c17, c18, c19, c20, c21, c22, c23, c24, c25, c26, c27, c28, c29, c30, c31, c32, c33, c34, c35, c36, c37, c38, c39, c40, c41, c42, c43, c44, c45, c46, c47, c48, c49, c50, c51, c52, c53, c54, c55, c56, c57, c58, c59, c60, c61, c62, c63, c64, c65, c66, c67, c68, c69, c70, c71, c72, c73, c74, c75, c76, c77, c78, c79, c80, c81, c82, c83, c84, c85, c86, c87, c88, c89, c90, c91, c92, c93, c94, c95, c96, c97, c98, c99, c100, c101, c102, c103, c104, c105, c106, c107, c108, c109, c110, c111, c112, c113, c114, c115, c116, c117, c118, c119, c120, c121, c122, c123, c124, c125, c126, c127, c128, c129, c130, c131, c132, c133, c134, c135, c136, c137, c138, c139, c140, c141, c142, c143, c144, c145, c146, c147, c148, c149, c150, c151, c152, c153, c154, c155, c156, c157, c158, c159, c160, c161, c162, c163, c164, c165, c166, c167, c168, c169, c170, c171, c172, c173, c174, c175, c176, c177, c178, c179, c180, c181, c182, c183, c184, c185, c186, c187, c188, c189, c190, c191, c192, c193, c194, c195, c196, c197, c198, c199, c200, c201, c202, c203, c204, c205, c206, c207, c208, c209, c210, c211, c212, c213, c214, c215, c216, c217, c218, c219, c220, c221, c222, c223, c224, c225, c226, c227, c228, c229, c230, c231, c232, c233, c234, c235, c236, c237], []⟩ W0 := by
  have HCK := hid hck
  have HR1 := hid hr1
  have HR2 := hid hr2
  have HL1 := hid hl1
  have HL2 := hid hl2
  have HT := hid htw
  have HQ := hid hQ
  clear hck hr1 hr2 hl1 hl2 htw hQ
  conv => arg 2; whnf
  go_wp2_with fail
  go_loopw [13, 14, 15] (fun sv nv iv W => ∃ i : Nat, i ≤ len1 + 300 ∧ iv = .int .i64 (i : Int) ∧ TW w g1 ab mb vw ck len1 i nv sv W) (fun _ _ iv _ => (len1 + 300) - (intOf iv).toNat)
  case atStart => exact ⟨0, Nat.zero_le _, rfl, HT.out⟩
  case round =>
    clear HT
    obtain ⟨i, hi, rfl, ht⟩ := hrel
    obtain ⟨n, ns, pt, us, s, rfl, hn, hnl, hrep, hti, htg⟩ := ht.ex
    have HTI := hid hti
    have HTG := hid htg
    have HNS := hid (And.intro hn (And.intro hnl hrep))
    clear ht hti htg hn hnl hrep
    obtain ⟨sa, sc, rfl, _⟩ := JL.form HTG.out.sums
    have hw3 := r_w3 HL1.out
    by_cases hlt : i < len1 + 300
    · have hi3 := r_lt hlt
      have HLT := hid hlt
      have htm := r_tm i
      have hwi := r_w3i i
      clear hlt hi
      go_upto_region 16 with fail
      clear hi3 hw3 hwi htm
      go_upto_if 56 with fail
      go_cut [16] from 56 to 63 (fun v W => ∃ t : Nat, t < 3 ∧ v = .int .i64 (t : Int) ∧ (len1 ≤ i → i % 3 = t) ∧ Below wr.heap.size wr W)
      case first =>
        as_aux_lemma =>
          by_cases hiL : i < len1
          · obtain ⟨g, off, rfl, _, hc⟩ := (HR1.out.below HTG.out.below).at (q_pos hiL)
            have c0 := hc i hiL
            have n1 : (0 : Int) ≤ (i : Int) := q_0i i
            have n2 : (i : Int) < (len1 : Int) := q_in hiL
            obtain ⟨t, ht, HTV⟩ := mod_hid (ls.getD i 0) 3 3 rfl (by decide) (by decide)
            have htv := HTV.out
            generalize ls.getD i 0 = z0 at *
            have HNL := hid (show len1 ≤ i → False from fun h => absurd hiL (Nat.not_lt.2 h))
            clear hc hiL HTV
            go_wp2_with fail
            go_meet
            case rel => exact ⟨t, ht, by rw [htv], fun h => (HNL.out h).elim, bid _⟩
          · have n2 : ¬ (i : Int) < (len1 : Int) := q_nin hiL
            clear hiL
            go_wp2_with fail
            go_meet
            case rel => exact ⟨i % 3, Nat.mod_lt _ (by decide), rfl, fun _ => rfl, bid _⟩
      case rest =>
      as_aux_lemma =>
      obtain ⟨t, ht, rfl, htn, hb⟩ := hcut
      have HTG2 := hid (HTG.out.later hb)
      have HTT := hid ht
      have HTN := hid htn
      have HB2 := hid hb
      clear ht htn hb HTG
      go_upto_region 18 with fail
      go_cut [82] from 64 to 82 (fun v W => ∃ b : Bool, v = .bool b ∧ (b = true → pt t = none ∨ (us t).fin ≠ 0 ∧ i < len1) ∧ (b = false → ∃ ub, pt t = some ub) ∧ Below wc.heap.size wc W)
      case first =>
        as_aux_lemma =>
          have hpc := HTG2.out.ptc HTT.out
          have n1 : (0 : Int) ≤ (t : Int) := q_0i t
          have n2 : (t : Int) < 3 := t_i3 HTT.out
          obtain ⟨_, _, _, xfa, xla⟩ := HTG2.out.cells
          have xfa0 := xfa t
          clear xfa
          cases hp : pt t with
          | none =>
            rw [hp] at hpc
            have hq : wc.cell? ⟨ab, t, none⟩ = some (.pointer none) := hpc
            clear hpc
            go_wp2_with fail
            go_meet
            case rel => exact ⟨true, rfl, fun _ => .inl hp, fun h => (by cases h), bid _⟩
          | some ub =>
            rw [hp] at hpc
            have hq : wc.cell? ⟨ab, t, none⟩ = some (.pointer (some ⟨ub, 0, none⟩)) := hpc
            clear hpc
            obtain ⟨_, e4, _, ef, el⟩ := HTG2.out.run HTT.out hp
            have ef4 := ef 4
            clear ef
            by_cases hf : (us t).fin = 0
            · rw [hf] at e4
              go_wp2_with fail
              go_meet
              case rel => exact ⟨false, rfl, fun h => (by cases h), fun _ => ⟨ub, hp⟩, bid _⟩
            · have hfb : ((us t).fin == 0) = false := by simpa using hf
              have hfc : ((us t).fin != 0) = true := by simpa using hf
              by_cases hiL : i < len1
              · have n3 : (i : Int) < (len1 : Int) := q_in hiL
                go_wp2_with fail
                go_meet
                case rel => exact ⟨true, rfl, fun _ => .inr ⟨hf, hiL⟩, fun h => (by cases h), bid _⟩
              · have n3 : ¬ (i : Int) < (len1 : Int) := q_nin hiL
                go_wp2_with fail
                go_meet
                case rel => exact ⟨false, rfl, fun h => (by cases h), fun _ => ⟨ub, hp⟩, bid _⟩
      case rest =>
      as_aux_lemma =>
      obtain ⟨b, rfl, hb1, hb2, hb⟩ := hcut
      have HTG3 := hid (HTG2.out.later hb)
      have HBA := hid hb1
      have HBB := hid hb2
      clear hb1 hb2 hb HTG2
      go_upto_if 82 with fail
      go_cut [14, 17, 18, 19, 20] from 82 to 149 (fun nv _ _ _ _ W => TU w g1 ab mb vw ck len1 i t ns nv (.slice sa ns.length sc) W)
      case first =>
        as_aux_lemma =>
          cases b with
          | true =>
            refine wp_cond_true rfl (tog_new HCK.out HR2.out HL1.out HL2.out HNS.out.1 HLT.out HTT.out HTN.out (HBA.out rfl) HTI.out HTG3.out ?_)
            intro u17 u18 u19 u20 u83 u84 u85 u86 u87 u88 u89 u90 u91 u92 u93 u94 u95 u96 u97 u98 u99 u100 u101 u102 u103 u104 u105 u106 u107 u108 u109 u110 u111 u112 u113 u114 u115 u116 u117 u118 u119 u120 u121 u122 u123 u124 u125 u126 u127 u128 u129 u130 u131 u132 u133 u134 u135 u136 u137 u138 u139 u140 u141 u142 u143 u144 u145 u146 u147 u148 u149 nv W' hu
            go_wp2_with fail
            go_meet
            case rel => exact hu
          | false =>
            obtain ⟨ub, hp⟩ := HBB.out rfl
            have HU := hid (show TU w g1 ab mb vw ck len1 i t ns (.int .i64 (n : Int)) (.slice sa ns.length sc) wc from
              ⟨n, ub, pt, us, s, rfl, Nat.le_succ_of_le HNS.out.1, hp, HTI.out.picks HTT.out (r_le HLT.out HL1.out), HTI.out.next HTT.out HCK.out (r_le HLT.out HL1.out) (fun h => by rw [hp] at h; cases h) HTN.out, HTG3.out⟩)
            go_wp2_with fail
            go_meet
            case rel => exact HU.out
      case rest =>
      as_aux_lemma =>
      have HU := hid hcut
      clear hcut HTG3 HBA HBB HTI
      obtain ⟨n', ub, pt', us', s', rfl, hn', hp, hpk, hti', htg'⟩ := HU.out.ex
      have HTJ := hid hti'
      have HTH := hid htg'
      have HPK := hid hpk
      have HN' := hid hn'
      clear HU hn' hpk hti' htg'
      have hpc := HTH.out.ptc HTT.out
      rw [hp] at hpc
      have hq : wc.cell? ⟨ab, t, none⟩ = some (.pointer (some ⟨ub, 0, none⟩)) := hpc
      clear hpc
      have n1 : (0 : Int) ≤ (t : Int) := q_0i t
      have n2 : (t : Int) < 3 := t_i3 HTT.out
      obtain ⟨_, _, ⟨ra, rc, e5, _⟩, ef, el⟩ := HTH.out.run HTT.out hp
      have ef5 := ef 5
      clear ef
      obtain ⟨⟨x0, x1, x2, x3, x4⟩, xf, xl, xfa, xla⟩ := HTH.out.cells
      have xf0 := xf 0
      have xf1 := xf 1
      have xf2 := xf 2
      have xf3 := xf 3
      have xf4 := xf 4
      have xft := xfa t
      clear xf xfa
      have HNX := hid (fun (z : Later wc) => (HTH.out.later z.below).next HTT.out hp HPK.out (r_ten HLT.out HL1.out))
      generalize (us' t).read.length = was at *
      go_upto_region 31 with fail
      refine wp_region_later_tail 5 (by kernel_rfl) (by kernel_rfl) ?_
      simp only [List.take_succ_cons, List.take_zero, List.drop_succ_cons, List.drop_zero]
      repeat (go_big_quiet_step (fail))
      refine wpQuiet_nil ?_
      rintro _ ⟨z, rfl⟩
      clear hq x0 x1 x2 x3 x4 xf0 xf1 xf2 xf3 xf4 xft xl xla e5 ef5 el
      go_upto_region 32 with (go_at_call 54; go_must ((with_reducible refine (HNX.out z).mono ?_); rintro e w9 ⟨rfl, hs⟩; have HS9 := hid (show Tog w g1 ab mb vw (.slice sa ns.length sc) ns pt' (fset us' t (nextR s' (us' t)).1) (nextR s' (us' t)).2 (10 * (i + 1)) w9 from by rw [← r_10]; exact hs); clear hs))
      clear HNX HPK HTH
      generalize fset us' t (nextR s' (us' t)).1 = us9 at *
      generalize (nextR s' (us' t)).2 = s9 at *
      go_cut [178] from 163 to 178 (fun v W => ∃ b : Bool, v = .bool b ∧ (b = true → t = 0 ∧ (us9 t).read.length = 4) ∧ Below w9.heap.size w9 W)
      case first =>
        as_aux_lemma =>
          have hpc := HS9.out.ptc HTT.out
          rw [hp] at hpc
          have hq : w9.cell? ⟨ab, t, none⟩ = some (.pointer (some ⟨ub, 0, none⟩)) := hpc
          clear hpc
          obtain ⟨_, _, ⟨ra, rc, e5, _⟩, ef, el⟩ := HS9.out.run HTT.out hp
          have ef5 := ef 5
          clear ef
          obtain ⟨_, _, _, xfa, xla⟩ := HS9.out.cells
          have xft := xfa t
          clear xfa
          by_cases t0 : t = 0
          · subst t0
            by_cases h4 : (us9 0).read.length = 4
            · rw [h4] at e5
              by_cases h3 : was = 3
              · subst h3
                go_wp2_with fail
                go_meet
                case rel => exact ⟨true, rfl, fun _ => ⟨(by first | rfl | trivial), h4⟩, bid _⟩
              · have h3b : ((was : Int) == 3) = false := t_nb h3
                have h3c : ¬ (was : Int) = 3 := t_nc h3
                go_wp2_with fail
                go_meet
                case rel => exact ⟨false, rfl, fun h => (by cases h), bid _⟩
            · have h4b : (((us9 0).read.length : Int) == 4) = false := t_nb h4
              have h4c : ¬ ((us9 0).read.length : Int) = 4 := t_nc h4
              generalize (us9 0).read.length = rl at *
              go_wp2_with fail
              go_meet
              case rel => exact ⟨false, rfl, fun h => (by cases h), bid _⟩
          · have t0b : ((t : Int) == 0) = false := t_nb t0
            have t0c : ¬ (t : Int) = 0 := t_nc t0
            go_wp2_with fail
            go_meet
            case rel => exact ⟨false, rfl, fun h => (by cases h), bid _⟩
      case rest =>
      as_aux_lemma =>
      obtain ⟨b, rfl, hb4, hb⟩ := hcut
      have HST := hid (HS9.out.later hb)
      have HB4 := hid hb4
      clear hb hb4 HS9
      go_upto_if 178 with fail
      have hi1 := r_i1 HLT.out HL1.out
      have HMI := hid (r_mi HLT.out)
      cases b with
      | false =>
        as_aux_lemma =>
        have HEND := hid (show TW w g1 ab mb vw ck len1 (i + 1) (.int .i64 (n' : Int)) (.slice sa ns.length sc) wc from ⟨n', ns, pt', us9, s9, rfl, HN'.out, Nat.le_succ_of_le HNS.out.2.1, HNS.out.2.2, HTJ.out, HST.out⟩)
        clear HST HB4 HTJ HN'
        go_wp2_with fail
        go_roundw
        case rel => exact ⟨i + 1, HLT.out, by go_num, HEND.out⟩
        case measure => first | (rw [hi1]; exact HMI.out) | exact HMI.out
      | true =>
        as_aux_lemma =>
        obtain ⟨t0, h4⟩ := HB4.out rfl
        obtain ⟨va, vb, vc, vd, hrd, hsum⟩ := HTJ.out.sum (by rw [← t0, hp]; simp) (by rw [← t0]; exact h4)
        have hrd2 : (us9 t).read = [(0, va), (1, vb), (2, vc), (3, vd)] := by rw [t0]; exact hrd
        refine wp_cond_true rfl (tog_sum HTT.out hp hrd2 (sum_four _ _ _ _ hsum) (r_ap HNS.out.2.1 HLT.out HL1.out) HST.out ?_)
        intro u22 u23 u179 u180 u181 u182 u183 u184 u185 u186 u187 u188 u189 u190 u191 u192 u193 u194 u195 u196 u197 u198 sa' sc' W' hs9
        have HEND := hid (show TW w g1 ab mb vw ck len1 (i + 1) (.int .i64 (n' : Int)) (.slice sa' (ns ++ [40]).length sc') W' from ⟨n', ns ++ [40], pt', us9, s9, rfl, HN'.out, r_sn HNS.out.2.1, r_rep HNS.out.2.2, HTJ.out, hs9⟩)
        clear HST HB4 HTJ HN' t0 h4 hrd hsum hrd2 hs9
        go_wp2_with fail
        go_roundw
        case rel => exact ⟨i + 1, HLT.out, by go_num, HEND.out⟩
        case measure => first | (rw [hi1]; exact HMI.out) | exact HMI.out
    · have hi3 := r_nlt hlt
      have HE := hid (show TW w g1 ab mb vw ck len1 (len1 + 300) (.int .i64 (n : Int)) (.slice sa ns.length sc) wr from by
        rw [← r_eq hlt hi]
        exact ⟨n, ns, pt, us, s, rfl, HNS.out.1, HNS.out.2.1, HNS.out.2.2, HTI.out, HTG.out⟩)
      clear hlt hi
      go_wp2_with fail
      exact HQ.out _ _ _ _ _ _ _ _ _ _ _ _ _ _ _ _ _ _ _ _ _ _ _ _ _ _ _ _ _ _ _ _ _ _ _ _ _ _ _ _ _ _ _ _ _ _ _ _ _ _ _ _ _ _ _ _ _ _ _ _ _ _ _ _ _ _ _ _ _ _ _ _ _ _ _ _ _ _ _ _ _ _ _ _ _ _ _ _ _ _ _ _ _ _ _ _ _ _ _ _ _ _ _ _ _ _ _ _ _ _ _ _ _ _ _ _ _ _ _ _ _ _ _ _ _ _ _ _ _ _ _ _ _ _ _ _ _ _ _ _ _ _ _ _ _ _ _ _ _ _ _ _ _ _ _ _ _ _ _ _ _ _ _ _ _ _ _ _ _ HE.out

end Go.Proofs.Ytjfinnjmcnjciaa

namespace Go.Proofs.Ytjfinnjmcnjciaa
open Go.RowKit
attribute [local go_sem] Later.cell Later.frozen

set_option maxHeartbeats 40000000 in
set_option maxRecDepth 100000 in
theorem together_any (ck : Int) (hck : ck = 1 ∨ ck = 2) (a1 : Option Addr) (len1 cap1 : Nat) (ls : List Int) (a2 : Option Addr) (len2 cap2 : Nat) (ms : List Int) (w : World) (hr1 : IntRow w a1 len1 ls) (hr2 : IntRow w a2 len2 ms) (hl1 : len1 ≤ 200) (hl2 : len2 ≤ 50) :
    Calls Try.prog 12 #[.int .i64 ck, .slice a1 len1 cap1, .slice a2 len2 cap2] w fun e W => ∃ v n, e = .returned (.tuple #[v, .bool true]) ∧ JL W w.heap.size v (List.replicate n 40) ∧ n ≤ 500 ∧ Below w.heap.size w W := by
  have HM := hid (Map15_any w)
  have HBO := hid (fun W => (show Calls Try.prog 16 #[.agg #[.int .i64 3, .int .i64 1, .int .i64 3, .int .i64 0, .int .i64 4]] W (MadeBoth 34 W) from by have := Both_any mT W mT_ok; rw [mT_size] at this; exact this))
  have HNW := hid (fun (t : Nat) (ht : t < 3) (W : World) (ρ : Nat → Nat) => New15_any t ck W ρ (12 * t) ht hck)
  have HCK := hid hck
  have HR1 := hid hr1
  have HR2 := hid hr2
  have HL1 := hid hl1
  have HL2 := hid hl2
  clear hck hr1 hr2 hl1 hl2
  go_enter Try.func12, Try.ntmps12
  go_upto_region 2 with (go_at_call 45; go_must ((with_reducible refine HM.out.mono ?_); rintro e w1 ⟨rfl, hb⟩; have HB1 := hid (bnew hb (.cells #[.int .i64 3, .int .i64 1, .int .i64 3, .int .i64 0, .int .i64 4] 31)); have HMP := hid (heap_alloc_new w1 (.cells #[.int .i64 3, .int .i64 1, .int .i64 3, .int .i64 0, .int .i64 4] 31)); have HG1 := hid hb.size; clear hb))
  refine wp_renamed (fun W => W.heap[w1.heap.size]? = some (.cells #[.int .i64 3, .int .i64 1, .int .i64 3, .int .i64 0, .int .i64 4] 31 (0, 0)) ∧ Below w.heap.size w W) ⟨HMP.out, HB1.out⟩ ?_
  generalize w1.heap.size = g1 at *
  clear HMP HB1 HM
  rintro w1 ⟨hmp, hb⟩
  have HMP := hid hmp
  have HB1 := hid hb
  have x0 := cell_of_blk hmp 0
  have x1 := cell_of_blk hmp 1
  have x2 := cell_of_blk hmp 2
  have x3 := cell_of_blk hmp 3
  have x4 := cell_of_blk hmp 4
  have xf0 := frozen_of_blk hmp 0
  have xf1 := frozen_of_blk hmp 1
  have xf2 := frozen_of_blk hmp 2
  have xf3 := frozen_of_blk hmp 3
  have xf4 := frozen_of_blk hmp 4
  simp only [List.getElem?_toArray, List.getElem?_cons_zero, List.getElem?_cons_succ] at x0 x1 x2 x3 x4
  clear hmp hb
  go_upto_block 0 with (go_at_call 16; go_must ((with_reducible refine (HBO.out _).mono ?_); rintro e w2 ⟨mb, vw, c, vr, rfl, hp, hb⟩; have HF := hid (show FlI w g1 mb vw 0 w2 from ⟨hp.mem.mono HB1.out.size, (hb.block _ (lt_of_block HMP.out)).trans HMP.out, (fun hs => by have h1 := lt_of_block HMP.out; have h2 := hp.mem.old _ h1; exact h2 hs), bthen HB1.out hb⟩); clear hp hb))
  clear x0 x1 x2 x3 x4 xf0 xf1 xf2 xf3 xf4 HBO HMP HB1
  go_cut [11] (fun v W => (∃ z : Int, v = .int .i64 z) ∧ FlI w g1 mb vw 4 W)
  case first =>
    go_wp2_with fail
    go_loopw [11] (fun y W => ∃ d : Nat, d ≤ 4 ∧ y = .int .i64 (d : Int) ∧ FlI w g1 mb vw d W) (fun y _ => 4 - (intOf y).toNat)
    case atStart => exact ⟨0, Nat.zero_le _, rfl, HF.out⟩
    case round =>
      clear HF
      obtain ⟨d, hd, rfl, hf⟩ := hrel
      have HF := hid hf
      clear hf
      by_cases hd4 : d < 4
      · have HDA := hid (data_calls hd4)
        have hdi := q_i4 hd4
        have hd1 := q_d1 hd4
        have HM4 := hid (q_m4 hd4)
        have HDD := hid (Nat.succ_le_of_lt hd4)
        obtain ⟨⟨x0, x1, x2, x3, x4⟩, xf, xl⟩ := HF.out.cells
        have xf0 := xf 0
        have xf1 := xf 1
        have xf2 := xf 2
        have xf3 := xf 3
        have xf4 := xf 4
        clear xf hd hd4
        go_upto_region 7 with (first | (go_at_call 20; go_must ((with_reducible refine (HDA.out _).mono ?_); rintro e w7 ⟨rfl, hb⟩; have HF7 := hid (HF.out.later hb); clear hb)) | (go_at_call 34; go_must ((with_reducible refine HF7.out.store.mono ?_); rintro e w8 ⟨rfl, hf⟩; have HF8 := hid hf; clear hf)))
        clear HDA x0 x1 x2 x3 x4 xf0 xf1 xf2 xf3 xf4 xl HF HF7
        go_wp2_with fail
        go_roundw
        case rel => exact ⟨d + 1, HDD.out, by go_num, HF8.out⟩
        case measure => first | (rw [hd1]; exact HM4.out) | exact HM4.out
      · have hdi := q_n4 hd4
        have HFE := hid (show FlI w g1 mb vw 4 wr from by have := HF.out; rwa [q_eqn hd4 hd] at this)
        clear hd hd4
        go_wp2_with fail
        go_meet
        case rel => exact ⟨⟨_, rfl⟩, HFE.out⟩
  case rest =>
  clear HF
  obtain ⟨⟨z, rfl⟩, hf⟩ := hcut
  have HT := hid (Tog.start (N := 10 * 0) (fun _ => dumR) hf.map HG1.out hf.mem hf.nm hf.below)
  clear hf
  go_upto_block 2 with fail
  refine wp_renamed (Tog w g1 wc.heap.size mb vw (.slice none 0 0) [] (fun _ => none) (fun _ => dumR) (fillS 4) (10 * 0)) HT.out ?_
  generalize wc.heap.size = ab
  clear HT
  intro W ht
  have HT := hid (show TW w g1 ab mb vw ck len1 0 (.int .i64 ((0 : Nat) : Int)) (.slice none 0 0) W from ⟨0, [], _, _, _, rfl, Nat.le_refl _, Nat.le_refl _, rfl, fill_start ck len1, ht⟩)
  clear ht
  go_cut [13] (fun sv W => ∃ nv, TW w g1 ab mb vw ck len1 (len1 + 300) nv sv W)
  case first =>
    refine tog_blk HCK.out HR1.out HR2.out HL1.out HL2.out HT.out ?_
    intro u6 u7 u15 u16 u17 u18 u19 u20 u21 u22 u23 u44 u45 u46 u47 u48 u49 u50 u51 u52 u53 u54 u55 u56 u57 u58 u59 u60 u61 u62 u63 u64 u65 u66 u67 u68 u69 u70 u71 u72 u73 u74 u75 u76 u77 u78 u79 u80 u81 u82 u83 u84 u85 u86 u87 u88 u89 u90 u91 u92 u93 u94 u95 u96 u97 u98 u99 u100 u101 u102 u103 u104 u105 u106 u107 u108 u109 u110 u111 u112 u113 u114 u115 u116 u117 u118 u119 u120 u121 u122 u123 u124 u125 u126 u127 u128 u129 u130 u131 u132 u133 u134 u135 u136 u137 u138 u139 u140 u141 u142 u143 u144 u145 u146 u147 u148 u149 u150 u151 u152 u153 u154 u155 u156 u157 u158 u159 u160 u161 u162 u163 u164 u165 u166 u167 u168 u169 u170 u171 u172 u173 u174 u175 u176 u177 u178 u179 u180 u181 u182 u183 u184 u185 u186 u187 u188 u189 u190 u191 u192 u193 u194 u195 u196 u197 u198 nv sv W' h
    go_wp2_with fail
    go_meet
    case rel => exact ⟨nv, h⟩
  case rest =>
    obtain ⟨nv, h⟩ := hcut
    rename_i K hK
    exact hK _ _ (tog_end HL1.out h)

end Go.Proofs.Ytjfinnjmcnjciaa

namespace Go.Proofs.Ytjfinnjmcnjciaa
open Go.RowKit
attribute [local go_sem] Later.cell Later.frozen

theorem rep_at {n j : Nat} (h : j < n) : (List.replicate n (40 : Int)).getD j 0 = 40 := by
  rw [List.getD_eq_getElem?_getD, List.getElem?_replicate, if_pos h]
  rfl
theorem q_500i {j n : Nat} (h : j < n) (hn : n ≤ 500) : wrap64 ((j : Int) + 1) = ((j + 1 : Nat) : Int) := by unfold wrap64; omega

set_option maxHeartbeats 40000000 in
set_option maxRecDepth 100000 in
theorem reads15_any (a0 : Int) (a1 : Option Addr) (len1 cap1 : Nat) (ls : List Int) (a2 : Option Addr) (len2 cap2 : Nat) (ms : List Int) (w : World) (hr1 : IntRow w a1 len1 ls) (hr2 : IntRow w a2 len2 ms) :
    Calls Try.prog 3 #[.int .i64 a0, .slice a1 len1 cap1, .slice a2 len2 cap2] w fun e w' => e = .returned (.bool true) ∧ Below w.heap.size w w' := by
  have HT := hid (fun W => told15_any W)
  by_cases h1 : 200 < len1
  · have h1i : (200 : Int) < (len1 : Int) := by omega
    go_enter Try.func3, Try.ntmps3
    go_wp2_with (go_at_call 11; go_must ((with_reducible refine (HT.out _).mono ?_); rintro e w1 ⟨rfl, hb⟩; have HB := hid hb; clear hb))
    go_ret
    exact ⟨rfl, HB.out⟩
  have h1i : ¬ (200 : Int) < (len1 : Int) := by omega
  by_cases h2 : 50 < len2
  · have h2i : (50 : Int) < (len2 : Int) := by omega
    go_enter Try.func3, Try.ntmps3
    go_wp2_with (go_at_call 11; go_must ((with_reducible refine (HT.out _).mono ?_); rintro e w1 ⟨rfl, hb⟩; have HB := hid hb; clear hb))
    go_ret
    exact ⟨rfl, HB.out⟩
  have h2i : ¬ (50 : Int) < (len2 : Int) := by omega
  have HTG := hid (together_any (wrap64 (1 + wrap64 ((IntKind.u64.wrap a0).tmod 2))) (ck_in a0) a1 len1 cap1 ls a2 len2 cap2 ms w hr1 hr2 (Nat.le_of_not_lt h1) (Nat.le_of_not_lt h2))
  clear hr1 hr2 h1 h2
  go_enter Try.func3, Try.ntmps3
  go_upto_region 4 with (go_at_call 12; go_must ((with_reducible refine HTG.out.mono ?_); rintro e w2 ⟨v, n, rfl, hj, hn, hb⟩; have HJ := hid hj; have HN := hid hn; have HB := hid hb; clear hj hn hb))
  clear HTG h1i h2i
  obtain ⟨sa, sc, rfl, hg, _⟩ := JL.form HJ.out
  have HG := hid hg
  clear hg
  rw [List.length_replicate] at HG ⊢
  go_wp2_with fail
  go_loopw [9] (fun y W => ∃ j : Nat, j ≤ n ∧ y = .int .i64 (j : Int) ∧ Below w2.heap.size w2 W) (fun y _ => n - (intOf y).toNat)
  case atStart => exact ⟨0, Nat.zero_le _, rfl, bid _⟩
  case round =>
    obtain ⟨j, hj, rfl, hb⟩ := hrel
    have HC := hid hb
    clear hb
    by_cases hlt : j < n
    · obtain ⟨g, rfl⟩ := HG.out (q_pos hlt)
      have c0 := ((JL.kept HJ.out (Wrote.of_below HC.out (fun _ => False)) (fun _ _ h => h)).at (k := j) (by rw [List.length_replicate]; exact hlt)).1
      rw [rep_at hlt] at c0
      have n0 := q_0i j
      have n1 := q_in hlt
      have n2 := q_500i hlt HN.out
      have HMI := hid (q_mn hlt)
      have HJ1 := hid (Nat.succ_le_of_lt hlt)
      clear hj hlt
      go_wp2_with fail
      go_roundw
      case rel => exact ⟨j + 1, HJ1.out, by go_num, HC.out⟩
      case measure => first | (rw [n2]; exact HMI.out) | exact HMI.out
    · have n1 := q_nin hlt
      clear hj hlt
      go_wp2_with (go_at_call 11; go_must ((with_reducible refine (HT.out _).mono ?_); rintro e w3 ⟨rfl, hb⟩; have HD := hid hb; clear hb))
      go_ret
      exact ⟨rfl, bthen (bthen HB.out HC.out) HD.out⟩

end Go.Proofs.Ytjfinnjmcnjciaa
