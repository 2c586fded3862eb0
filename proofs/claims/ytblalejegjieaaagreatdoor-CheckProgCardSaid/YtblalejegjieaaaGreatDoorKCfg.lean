/-
  A run's beginning, read: locks, conditions, programs.
-/
import Derived.Test.YtblalejegjieaaaGreatDoorKPlain
import Derived.Test.YtblalejegjieaaaGreatDoorIrow
namespace Go.Proofs.YtblalejegjieaaaGreatDoor
open Go.RowKit
set_option linter.unusedVariables false

structure LkAt (w : World) (b o : Nat) (l : Lk) : Prop where
  c0 : w.cell? ⟨b, o, none⟩ = some (.int .i64 l.kind)
  c1 : w.cell? ⟨b, o + 1, none⟩ = some (.int .i64 l.fr)
  c2 : w.cell? ⟨b, o + 2, none⟩ = some (.int .i64 l.len)
theorem LkAt.keep {w w' : World} {b o : Nat} {l : Lk} (h : LkAt w b o l) (hb : w'.heap[b]? = w.heap[b]?) : LkAt w' b o l := by
  have e : ∀ j, w'.cell? ⟨b, j, none⟩ = w.cell? ⟨b, j, none⟩ := fun j => World.cell?_of_block (a := ⟨b, j, none⟩) hb
  exact ⟨(e _).trans h.c0, (e _).trans h.c1, (e _).trans h.c2⟩
/-- A slice that reads as these locks: nil, or a row of cells. -/
structure LkRow (w : World) (a : Option Addr) (len : Nat) (ls : List Lk) : Prop where
  cnt : ls.length = len
  row : len = 0 ∨ ∃ b off, a = some ⟨b, off, none⟩ ∧ b < w.heap.size ∧ ∀ k l, ls[k]? = some l → LkAt w b (off + k * 3) l
  wf : ∀ l ∈ ls, l.Wf
theorem LkRow.below {w w' : World} {a : Option Addr} {len : Nat} {ls : List Lk} (h : LkRow w a len ls) (hb : Below w.heap.size w w') : LkRow w' a len ls := by
  refine ⟨h.cnt, ?_, h.wf⟩
  rcases h.row with h' | ⟨b, off, rfl, hlt, hc⟩
  · exact .inl h'
  · exact .inr ⟨b, off, rfl, Nat.lt_of_lt_of_le hlt hb.size, fun k i hk => (hc k i hk).keep (hb.block b hlt)⟩
theorem LkRow.at {w : World} {a : Option Addr} {len : Nat} {ls : List Lk} (h : LkRow w a len ls) (hl : 0 < len) : ∃ b off, a = some ⟨b, off, none⟩ ∧ b < w.heap.size ∧ ∀ k l, ls[k]? = some l → LkAt w b (off + k * 3) l := by
  rcases h.row with h' | h'
  · omega
  · exact h'

/-- A slice of programs: each a slice of instructions. -/
structure ProgRow (w : World) (a : Option Addr) (len : Nat) (ps : List (List Ins)) : Prop where
  cnt : ps.length = len
  row : (a = none ∧ len = 0) ∨ ∃ b off, a = some ⟨b, off, none⟩ ∧ b < w.heap.size ∧ ∀ k p, ps[k]? = some p → ∃ ap cp, w.cell? ⟨b, off + k, none⟩ = some (.slice ap p.length cp) ∧ p.length ≤ cp ∧ cp ≤ maxLen ∧ InsRow w ap p.length p
theorem ProgRow.below {w w' : World} {a : Option Addr} {len : Nat} {ps : List (List Ins)} (h : ProgRow w a len ps) (hb : Below w.heap.size w w') : ProgRow w' a len ps := by
  refine ⟨h.cnt, ?_⟩
  rcases h.row with h' | ⟨b, off, rfl, hlt, hc⟩
  · exact .inl h'
  · refine .inr ⟨b, off, rfl, Nat.lt_of_lt_of_le hlt hb.size, fun k p hk => ?_⟩
    obtain ⟨ap, cp, h1, h2, h3, h4⟩ := hc k p hk
    exact ⟨ap, cp, (hb.cell (p := ⟨b, off + k, none⟩) hlt).trans h1, h2, h3, h4.below hb⟩
theorem ProgRow.at {w : World} {a : Option Addr} {len : Nat} {ps : List (List Ins)} (h : ProgRow w a len ps) {k : Nat} (hk : k < len) :
    ∃ b off ap cp p, a = some ⟨b, off, none⟩ ∧ b < w.heap.size ∧ ps[k]? = some p ∧ w.cell? ⟨b, off + k, none⟩ = some (.slice ap p.length cp) ∧ p.length ≤ cp ∧ cp ≤ maxLen ∧ InsRow w ap p.length p := by
  have hl : k < ps.length := by rw [h.cnt]; exact hk
  rcases h.row with ⟨_, h'⟩ | ⟨b, off, h1, h2, hc⟩
  · omega
  · obtain ⟨ap, cp, h3⟩ := hc k ps[k] (List.getElem?_eq_getElem hl)
    exact ⟨b, off, ap, cp, ps[k], h1, h2, List.getElem?_eq_getElem hl, h3⟩

/-- What a run begins with. -/
structure Cfg where
  eng : Int
  clk : Int
  str : Int
  rds : Int
  wrs : Int
  rty : Int
  fuel : Int
  most : Int
  locks : List Lk
  conds : List Int
  progs : List (List Ins)
/-- Where its four lists lie. -/
structure CV where
  ai : Option Addr
  ni : Nat
  ki : Nat
  al : Option Addr
  nl : Nat
  kl : Nat
  ac : Option Addr
  nc : Nat
  kc : Nat
  ap : Option Addr
  np : Nat
  kp : Nat
@[reducible] def Cfg.cs (c : Cfg) (s : CV) : Array Value := #[.int .i64 c.eng, .int .i64 c.clk, .int .i64 c.str, .int .i64 c.rds, .int .i64 c.wrs, .int .i64 c.rty, .int .i64 c.fuel, .int .i64 c.most, .slice s.ai s.ni s.ki, .slice s.al s.nl s.kl, .slice s.ac s.nc s.kc, .slice s.ap s.np s.kp]
@[reducible] def Cfg.v (c : Cfg) (s : CV) : Value := .agg #[.int .i64 c.eng, .int .i64 c.clk, .int .i64 c.str, .int .i64 c.rds, .int .i64 c.wrs, .int .i64 c.rty, .int .i64 c.fuel, .int .i64 c.most, .slice s.ai s.ni s.ki, .slice s.al s.nl s.kl, .slice s.ac s.nc s.kc, .slice s.ap s.np s.kp]
structure CfgIn (w : World) (c : Cfg) (s : CV) : Prop where
  locks : LkRow w s.al s.nl c.locks
  conds : IntRow w s.ac s.nc c.conds
  progs : ProgRow w s.ap s.np c.progs
  fi : s.ni ≤ 1000000
  fl : s.nl ≤ 1000000
  fc : s.nc ≤ 1000000
  fp : s.np ≤ 1000000
theorem CfgIn.below {w w' : World} {c : Cfg} {s : CV} (h : CfgIn w c s) (hb : Below w.heap.size w w') : CfgIn w' c s :=
  ⟨h.locks.below hb, h.conds.below hb, h.progs.below hb, h.fi, h.fl, h.fc, h.fp⟩

end Go.Proofs.YtblalejegjieaaaGreatDoor
