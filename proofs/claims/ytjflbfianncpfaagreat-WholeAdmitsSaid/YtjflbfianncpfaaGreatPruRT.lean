/-
  The document's answers of layer 16 (viaductref16): has, Fits, Links. Condition: numbers as large as their types allow; fewer than 2^30 elements in each list.
  The document's Links of layer 16; the laws' Fits (small enough), Same. Condition: numbers as large as their types allow; fewer than 2^30 elements in each list.
  The laws' Theirs and Adverts (viaductlaw16). Condition: fewer than 2^30 elements in each list.
-/
import Derived.Test.YtjflbfianncpfaaGreatPruAC
import Derived.Test.YtjflbfianncpfaaGreatGroupMC
import Derived.Test.YtjflbfianncpfaaGreatGraphDL
namespace Go.Proofs.YtjflbfianncpfaaGreat
set_option maxRecDepth 100000
set_option linter.unusedVariables false
open Go.RowKit

end Go.Proofs.YtjflbfianncpfaaGreat

namespace Go.Proofs.YtjflbfianncpfaaGreat
set_option maxRecDepth 100000
set_option linter.unusedVariables false
open Go.RowKit

/-- Two links are compared. -/
theorem lkc_inj {x y : Lk} (h : lkc x = lkc y) : x = y := by
  obtain ⟨a, b, c, d, e⟩ := x
  obtain ⟨a', b', c', d', e'⟩ := y
  simp only [lkc, List.cons.injEq, Value.int.injEq, true_and, and_true] at h
  obtain ⟨rfl, rfl, rfl, rfl, rfl⟩ := h
  rfl
theorem eq_lk16 (x y : Lk) (w : World) : (binOp .eql 44 (.agg (lkc x).toArray) (.agg (lkc y).toArray)).run Tryz.prog w = .ok (.bool (decide (x = y))) w ∧
    (binOp .neq 44 (.agg (lkc x).toArray) (.agg (lkc y).toArray)).run Tryz.prog w = .ok (.bool (!decide (x = y))) w :=
  eql_E (xs := lkc x) (ys := lkc y) (la := lkc x) (lb := lkc y) (m := 5) (D := 5) (by decide) (by kernel_rfl) (by rfl) (by rfl) (by rfl) (by rfl) w (decide (x = y)) (by
    rw [decide_eq_true_eq]
    exact ⟨fun h => by rw [h], fun h => lkc_inj h⟩)
/-- Small enough? -/
def sml16 (n : Nat) (p : Pl) : Bool := decide (n ≤ 100) && (decide (p.n1 ≤ 100) && (decide (p.n2 ≤ 100) && decide (p.n3 ≤ 100)))
end Go.Proofs.YtjflbfianncpfaaGreat

namespace Go.Proofs.YtjflbfianncpfaaGreat
set_option maxRecDepth 100000
set_option linter.unusedVariables false
open Go.RowKit

theorem infoOw16 : (Tryz.prog.info? 191).map (fun i => (i.zero, i.size, i.bytes)) = some (some (.agg #[.int .i64 0, .int .i64 0, .int .u64 0]), 3, 24) := by kernel_rfl
theorem accr_setBelow16 {α : Type} {enc : α → List Value} {k : Nat} {w : World} {base c : Nat} {T : TypeId} {A : Option Addr} {l : List α} (h : AccR enc k w base T A c l) {p : Addr} (hp : p.block < base) (u : Value) : AccR enc k (w.setCell p u) base T A c l := ownsRow_setCell_below h hp u
def AccO16 (w : World) (base : Nat) (A : Option Addr) (c : Nat) (l : List Ow) : Prop := AccR owc 3 w base 191 A c l
theorem acco16_push {w : World} {base c : Nat} {A : Option Addr} {l : List Ow} (h : AccO16 w base A c l) (f t : Int) (b : Nat) (hb : base ≤ w.heap.size) (hl : l.length ≤ 1099511627776) :
    ∃ A' c' w', (Builtin.append_ #[58, 58] 58 #[.slice A l.length c, .slice (some ⟨w.heap.size, 0, none⟩) 1 1]).run Tryz.prog (w.alloc (.cells #[.int .i64 f, .int .i64 t, .int .u64 (b : Int)] 191)) = .ok (.slice A' (l.length + 1) c') w' ∧
      AccO16 w' base A' c' (l ++ [⟨f, t, b⟩]) ∧ w.grownBy w' (blk A) :=
  accr_push owc_length owc_one (by omega) h ⟨f, t, b⟩ Tryz.underlying58 infoOw16 rfl hb (by omega) (by omega)
/-- The same question, with its Own in memory of its own. -/
def pl16 (p : Pl) (A : Option Addr) (i c : Nat) : Pl := ⟨p.a1, p.n1, p.c1, p.a2, p.n2, p.c2, A, i, c, p.h⟩
def Th16 (a : Ak) (p : Pl) (w : World) (e : Ending) (w' : World) : Prop := ∃ A c, e = .returned (.agg (akc a.w (pl16 p A p.n3 c)).toArray) ∧ AccO16 w' w.heap.size A c a.ow ∧ Below w.heap.size w w'
theorem Th16.akin {a : Ak} {p : Pl} {w w' : World} {A : Option Addr} {c : Nat} (h : AkIn w w.heap.size a p) (ha : AccO16 w' w.heap.size A c a.ow) (hb : Below w.heap.size w w') : AkIn w' w'.heap.size a (pl16 p A p.n3 c) := by
  have h2 := h.below hb
  refine ⟨h2.nn, h2.nl, ?_, h.b1, h.b2, h.b3⟩
  have := AccR.row ha
  rwa [h.ow.1] at this
theorem infoAkP16 (x : Wn) (p : Pl) : (Tryz.prog.info? 60).map (·.size) = some (akc x p).length := infoAkP
end Go.Proofs.YtjflbfianncpfaaGreat
