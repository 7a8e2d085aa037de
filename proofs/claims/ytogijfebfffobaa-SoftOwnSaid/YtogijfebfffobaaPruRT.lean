/-
  The document's answers of layer 16 (viaductref16): has, Fits, Links. Condition: numbers as large as their types allow; fewer than 2^30 elements in each list.
  The document's Links of layer 16; the laws' Fits (small enough), Same. Condition: numbers as large as their types allow; fewer than 2^30 elements in each list.
  The laws' Theirs and Adverts (viaductlaw16). Condition: fewer than 2^30 elements in each list.
-/
import Derived.Test.YtogijfebfffobaaPruAC
import Derived.Test.YtogijfebfffobaaGroupMC
import Derived.Test.YtogijfebfffobaaGraphDL
namespace Go.Proofs.Ytogijfebfffobaa
set_option maxRecDepth 100000
set_option linter.unusedVariables false
open Go.RowKit

end Go.Proofs.Ytogijfebfffobaa

namespace Go.Proofs.Ytogijfebfffobaa
set_option maxRecDepth 100000
set_option linter.unusedVariables false
open Go.RowKit

/-- Two links are compared. -/
theorem lkc_inj {x y : Lk} (h : lkc x = lkc y) : x = y := by
  obtain ⟨a, b, c, d, e⟩ := x
  obtain ⟨a', b', c', d', e'⟩ := y
  simp only [lkc, List.cons.injEq, Value.int.injEq, true_and, and_true] at h
  obtain ⟨rfl, rfl, rfl, rfl, rfl⟩ := h
  rfl
/-- Small enough? -/
def sml16 (n : Nat) (p : Pl) : Bool := decide (n ≤ 100) && (decide (p.n1 ≤ 100) && (decide (p.n2 ≤ 100) && decide (p.n3 ≤ 100)))
end Go.Proofs.Ytogijfebfffobaa

namespace Go.Proofs.Ytogijfebfffobaa
set_option maxRecDepth 100000
set_option linter.unusedVariables false
open Go.RowKit

theorem accr_setBelow16 {α : Type} {enc : α → List Value} {k : Nat} {w : World} {base c : Nat} {T : TypeId} {A : Option Addr} {l : List α} (h : AccR enc k w base T A c l) {p : Addr} (hp : p.block < base) (u : Value) : AccR enc k (w.setCell p u) base T A c l := ownsRow_setCell_below h hp u
/-- The same question, with its Own in memory of its own. -/
def pl16 (p : Pl) (A : Option Addr) (i c : Nat) : Pl := ⟨p.a1, p.n1, p.c1, p.a2, p.n2, p.c2, A, i, c, p.h⟩
end Go.Proofs.Ytogijfebfffobaa
