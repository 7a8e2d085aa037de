/-
  A block of cells whose values are known one by one, and stores into it. No condition: definitions and their simplest consequences.
-/
import Derived.Test.YtmffmoflelnmoaaRow
namespace Go.Proofs.Ytmffmoflelnmoaa
open Go.RowKit

/-- Block 'q' holds just these values, and may be written. -/
def Blk (w : World) (q : Nat) (T : TypeId) (vs : List Value) : Prop := w.heap[q]? = some (.cells vs.toArray T (0, 0))
section
variable {w w' : World} {q : Nat} {T : TypeId} {vs : List Value}
theorem Blk.cell (h : Blk w q T vs) (i : Nat) : w.cell? ⟨q, i, none⟩ = vs[i]? := by
  have := cell_of_row w q i _ _ _ h
  rw [this]; simp
theorem Blk.free (h : Blk w q T vs) (i : Nat) : w.frozen? ⟨q, i, none⟩ = false := by unfold Blk at h; simp [World.frozen?, h]
theorem Blk.lt (h : Blk w q T vs) : q < w.heap.size := (Array.getElem?_eq_some_iff.1 h).1
theorem Blk.same (h : Blk w q T vs) (hb : w'.heap[q]? = w.heap[q]?) : Blk w' q T vs := hb.trans h
theorem Blk.below (h : Blk w q T vs) (hb : Below w.heap.size w w') : Blk w' q T vs := h.same (hb.block _ h.lt)
theorem Blk.alloc (h : Blk w q T vs) (o : Obj) : Blk (w.alloc o) q T vs := h.same (Below.heap_alloc _ _ _ h.lt)
theorem Blk.drewN (h : Blk w q T vs) (n : Nat) : Blk (w.drewN n) q T vs := h
theorem Blk.drew (h : Blk w q T vs) : Blk w.drew q T vs := h
theorem Blk.new (w : World) (T : TypeId) (vs : List Value) : Blk (w.alloc (.cells vs.toArray T)) w.heap.size T vs := heap_alloc_new w _
theorem Blk.set (h : Blk w q T vs) (i : Nat) (v : Value) : Blk (w.setCell ⟨q, i, none⟩ v) q T (vs.set i v) := by
  unfold Blk at h ⊢
  simp [World.setCell, Array.getElem?_modify, h]
theorem Blk.other (h : Blk w q T vs) {p : Addr} (hne : p.block ≠ q) (v : Value) : Blk (w.setCell p v) q T vs :=
  h.same (Below.heap_setCell _ _ _ _ (Ne.symm hne))
theorem Blk.set4 {u0 u1 u2 u3 : Value} (h : Blk w q T [u0, u1, u2, u3]) (v0 v1 v2 v3 : Value) : Blk ((((w.setCell ⟨q, 0, none⟩ v0).setCell ⟨q, 1, none⟩ v1).setCell ⟨q, 2, none⟩ v2).setCell ⟨q, 3, none⟩ v3) q T [v0, v1, v2, v3] := (((h.set 0 v0).set 1 v1).set 2 v2).set 3 v3
theorem bel_set4 {B : Nat} {a : World} (h : Below B a w) (hq : B ≤ q) (v0 v1 v2 v3 : Value) : Below B a ((((w.setCell ⟨q, 0, none⟩ v0).setCell ⟨q, 1, none⟩ v1).setCell ⟨q, 2, none⟩ v2).setCell ⟨q, 3, none⟩ v3) :=
  (((h.setCell (p := ⟨q, 0, none⟩) hq v0).setCell (p := ⟨q, 1, none⟩) hq v1).setCell (p := ⟨q, 2, none⟩) hq v2).setCell (p := ⟨q, 3, none⟩) hq v3
theorem Blk.other4 (h : Blk w q T vs) {p : Nat} (hne : p ≠ q) (v0 v1 v2 v3 : Value) : Blk ((((w.setCell ⟨p, 0, none⟩ v0).setCell ⟨p, 1, none⟩ v1).setCell ⟨p, 2, none⟩ v2).setCell ⟨p, 3, none⟩ v3) q T vs :=
  (((h.other (p := ⟨p, 0, none⟩) hne v0).other (p := ⟨p, 1, none⟩) hne v1).other (p := ⟨p, 2, none⟩) hne v2).other (p := ⟨p, 3, none⟩) hne v3
theorem Row.drewS {α : Type} {enc : α → List Value} {n : Nat} {a : Option Addr} {l : List α} (h : Row enc w w.heap.size a n l) : Row enc w.drew w.drew.heap.size a n l := h
end
end Go.Proofs.Ytmffmoflelnmoaa
