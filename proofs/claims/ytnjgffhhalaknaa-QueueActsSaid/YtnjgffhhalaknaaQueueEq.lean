/-
  The document's items are compared. No condition.
-/
import Derived.Test.YtnjgffhhalaknaaQueueI
namespace Go.Proofs.Ytnjgffhhalaknaa
open Go.RowKit

/-- An operation behind a guard that does not hold is not carried out. -/
theorem seq_unmakeQ {P : Program} {ops : Array Oper} {Q : Exit → Act → World → Prop} {S : World → Prop} {i : Nat} {r : List (Nat × Bool)} {a : Act} {w : World} {o : Oper} (ho : ops.toList[i]? = some o) (hw : Region.wanted o (yielded ops a.tmps) = false) (hS : S w)
    (h : wpSeq P ops Q S r (a.put o.dst undef) w) : wpSeq P ops Q S ((i, false) :: r) a w := by
  refine wpOp_step (o := o) (by rw [← Array.getElem?_toList]; exact ho) (fun K hK => ?_)
  rw [if_neg (by rw [hw]; exact Bool.false_ne_true)]
  exact hK _ _ ⟨S, fun _ h => h, hS, h⟩
theorem itm_bne (x y : Itm) : (!(x.cost == y.cost && (x.hops == y.hops && x.node == y.node))) = decide (x ≠ y) := by
  obtain ⟨x0, x1, x2⟩ := x
  obtain ⟨y0, y1, y2⟩ := y
  by_cases h0 : x0 = y0 <;> by_cases h1 : x1 = y1 <;> by_cases h2 : x2 = y2 <;> simp [h0, h1, h2]
set_option maxRecDepth 100000 in
theorem exec_neqR {o : Oper} {a : Act} {x y : Operand} {u v : Itm} (ho : o.op = .binOp .neq 23 x y 23) (hx : a.eval x = .agg (itL u).toArray) (hy : a.eval y = .agg (itL v).toArray) (w : World) :
    (execOp a.eval o).run Try.prog w = .ok (.value (.bool (decide (u ≠ v)))) w := by
  rw [← itm_bne]
  unfold execOp
  simp only [ho, hx, hy]
  unfold itL
  by_cases h0 : u.cost = v.cost <;> by_cases h1 : u.hops = v.hops <;> by_cases h2 : u.node = v.node <;> simp [go_sem, h0, h1, h2]
set_option maxRecDepth 100000 in
theorem seq_neqR {ops : Array Oper} {Q : Exit → Act → World → Prop} {S : World → Prop} {i : Nat} {r : List (Nat × Bool)} {a : Act} {w : World} {o : Oper} {x y : Operand} {u v : Itm} (ho : ops.toList[i]? = some o) (hw : Region.wanted o (yielded ops a.tmps) = true)
    (hop : o.op = .binOp .neq 23 x y 23) (hx : a.eval x = .agg (itL u).toArray) (hy : a.eval y = .agg (itL v).toArray)
    (h : wpSeq Try.prog ops Q S r (a.put o.dst (.bool (decide (u ≠ v)))) w) : wpSeq Try.prog ops Q S ((i, true) :: r) a w :=
  seq_pure ho hw (fun W _ => exec_neqR hop hx hy W) h
end Go.Proofs.Ytnjgffhhalaknaa
