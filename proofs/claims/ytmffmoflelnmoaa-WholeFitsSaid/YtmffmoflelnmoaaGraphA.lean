/-
  Contracts of package graph: within, isNode, endsOf, valid; links as plain data and as they lie in memory. No condition beside what each names.
-/
import Derived.Test.YtmffmoflelnmoaaStepS
import Derived.Test.YtmffmoflelnmoaaInts
import Derived.Test.YtmffmoflelnmoaaSeq
import Derived.LoopN
namespace Go.Proofs.Ytmffmoflelnmoaa
set_option maxRecDepth 100000
open Go.RowKit

/-- A link as plain data. -/
structure Lk where
  f : Int
  t : Int
  c : Int
  m : Int
  g : Int
  deriving DecidableEq, Inhabited
/-- .. and its cells. -/
def lkc (x : Lk) : List Value := [.int .i64 x.f, .int .i64 x.t, .int .u64 x.c, .int .i64 x.m, .int .u32 x.g]
theorem lkc_length (x : Lk) : (lkc x).length = 5 := rfl
theorem lkc_one (x : Lk) : ∀ u ∈ lkc x, u.oneCell' = true := by
  intro u hu
  simp [lkc] at hu
  rcases hu with rfl | rfl | rfl | rfl | rfl <;> rfl
theorem infoLink : (Try.prog.info? 35).map (·.size) = some 5 := by kernel_rfl
/-- A link in a row. -/
theorem row_link {w : World} {B n : Nat} {a : Option Addr} {L : List Lk} (h : Row lkc w B a n L) (hn : 0 < n) : ∃ b o : Nat, a = some ⟨b, o, none⟩ ∧ b < B ∧ ∀ (i : Nat) (hi : i < L.length), w.rangeAt b (o + i * 5) (lkc L[i]) := by
  obtain ⟨b, o, e, hb, hc⟩ := h.cells lkc_length hn
  refine ⟨b, o, e, hb, fun i hi j v hv => ?_⟩
  have hj : j < 5 := by
    rcases Nat.lt_or_ge j 5 with h | h
    · exact h
    · rw [List.getElem?_eq_none (by rw [lkc_length]; exact h)] at hv; cases hv
  rw [hc i hi j hj]; exact hv
theorem link_cells {w : World} {b k : Nat} {x : Lk} (h : w.rangeAt b k (lkc x)) : w.cell? ⟨b, k, none⟩ = some (.int .i64 x.f) ∧ w.cell? ⟨b, k + 1, none⟩ = some (.int .i64 x.t) ∧ w.cell? ⟨b, k + 2, none⟩ = some (.int .u64 x.c) ∧ w.cell? ⟨b, k + 3, none⟩ = some (.int .i64 x.m) ∧ w.cell? ⟨b, k + 4, none⟩ = some (.int .u32 x.g) :=
  ⟨h 0 _ rfl, h 1 _ rfl, h 2 _ rfl, h 3 _ rfl, h 4 _ rfl⟩

def gwn (x lo hi : Int) : Bool := decide (lo ≤ x) && decide (x ≤ hi)
/-- The link's ends as a value. -/
def ev (x : Lk) : Value := .agg #[.int .i64 x.f, .int .i64 x.t]
/-- May a link be, whatever the others are? -/
def vld (n : Int) (x : Lk) : Bool := gwn x.f 0 (n - 1) && gwn x.t 0 (n - 1) && !(x.f == x.t) && gwn x.m 1 65535
end Go.Proofs.Ytmffmoflelnmoaa
