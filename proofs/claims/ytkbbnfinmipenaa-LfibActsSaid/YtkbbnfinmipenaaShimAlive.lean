/-
  The answers that the document fixes for layer 3 ('alive') come out: no condition.
-/
import Derived.Test.YtkbbnfinmipenaaShimC
namespace Go.Proofs.Ytkbbnfinmipenaa
open Go.RowKit

/-- New memory reads as the values that were laid there. -/
theorem row_alloc {α : Type} {enc : α → List Value} (w : World) (l : List α) (cs : Array Value) (T : TypeId) (h : cs = (l.flatMap enc).toArray) : Row enc (w.alloc (.cells cs T)) (w.alloc (.cells cs T)).heap.size (some ⟨w.heap.size, 0, none⟩) l.length l := by
  subst h
  refine ⟨rfl, fun _ => ⟨w.heap.size, 0, rfl, by simp, fun i hi => ?_⟩⟩
  rw [cell_of_row _ _ _ _ _ _ (heap_alloc_new w _)]
  simp

theorem At3.below {W W' : World} {B b k : Nat} {x y z : Int} (h : At3 W b k x y z) (hb : Below B W W') (hB : b < B) : At3 W' b k x y z :=
  ⟨(hb.cell (p := ⟨b, k, none⟩) hB).trans h.1, (hb.cell (p := ⟨b, k + 1, none⟩) hB).trans h.2.1, (hb.cell (p := ⟨b, k + 2, none⟩) hB).trans h.2.2⟩
theorem At3.new (w : World) (x y z : Int) : At3 (w.alloc (.cells #[.int .i64 x, .int .i64 y, .int .i64 z] 61)) w.heap.size 0 x y z :=
  ⟨cell_of_row _ _ _ _ _ _ (heap_alloc_new w _), cell_of_row _ _ _ _ _ _ (heap_alloc_new w _), cell_of_row _ _ _ _ _ _ (heap_alloc_new w _)⟩

end Go.Proofs.Ytkbbnfinmipenaa
