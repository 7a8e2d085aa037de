/-
  The library's stable sort of whole numbers by a function, its parts: ranges that change places, and a rotation. Condition: at most 2^40 numbers, in memory that the call itself made.
-/
import Derived.Test.YtnjgffhhalaknaaGrS
import Derived.Test.YtnjgffhhalaknaaInts
import Derived.Test.YtnjgffhhalaknaaSeq
import Derived.LoopN
import Derived.Shelf.Abstract
import Derived.Laws.EntriesVeiled
namespace Go.Proofs.Ytnjgffhhalaknaa
open Go.RowKit

/-- A row of whole numbers in a block, by its places. -/
def Arr (w : World) (base g c n : Nat) (f : Nat → Int) : Prop := AccI w base (some ⟨g, 0, none⟩) c (lst n f)
section
variable {w : World} {base g c n : Nat} {f : Nat → Int}
theorem Arr.cell (h : Arr w base g c n f) (i : Nat) (hi : i < n) : w.cell? ⟨g, i, none⟩ = some (.int .i64 (f i)) := by
  have := World.ownsRow.cellAt h i (by rw [lst_length]; omega)
  rw [this, ei_flat, List.getElem?_map, lst_get _ _ _ hi]; rfl
theorem Arr.free (h : Arr w base g c n f) (i : Nat) : w.frozen? ⟨g, i, none⟩ = false := World.ownsRow.frozenAt h i
theorem Arr.set (h : Arr w base g c n f) (i : Nat) (x : Int) : Arr (w.setCell ⟨g, i, none⟩ (.int .i64 x)) base g c n (upd f i x) ∧ w.grownBy (w.setCell ⟨g, i, none⟩ (.int .i64 x)) (some g) := by
  have := World.ownsRow.stored h i (.int .i64 x)
  refine ⟨?_, this.2⟩
  have t1 := this.1
  unfold Arr AccI AccR
  rw [ei_flat] at t1
  rw [ei_flat, ← lst_set, List.length_set, List.map_set]
  exact t1
theorem Arr.swap (h : Arr w base g c n f) (p q : Nat) : Arr ((w.setCell ⟨g, p, none⟩ (.int .i64 (f q))).setCell ⟨g, q, none⟩ (.int .i64 (f p))) base g c n (swp f p q) ∧ w.grownBy ((w.setCell ⟨g, p, none⟩ (.int .i64 (f q))).setCell ⟨g, q, none⟩ (.int .i64 (f p))) (some g) := by
  have h1 := h.set p (f q)
  have h2 := h1.1.set q (f p)
  exact ⟨h2.1, h1.2.trans h2.2⟩
theorem Arr.lt (h : Arr w base g c n f) : g < w.heap.size := (AccR.ge h rfl).2
theorem Arr.drewN (h : Arr w base g c n f) (m : Nat) : Arr (w.drewN m) base g c n f := h
end

theorem gb_drew {w w' : World} {r : Option Nat} (h : w.grownBy w' r) : w.grownBy w'.drew r := ⟨h.os, h.tape, h.output, h.size, h.block⟩

def SwPost (w : World) (base g c n a b k : Nat) (f : Nat → Int) (e : Ending) (w' : World) : Prop :=
  e = .returned (.tuple #[]) ∧ ∃ f', Arr w' base g c n f' ∧ Swr a b k f f' ∧ w.grownBy w' (some g)

def RotPost (w : World) (base g c n a m b : Nat) (f : Nat → Int) (e : Ending) (w' : World) : Prop :=
  e = .returned (.tuple #[]) ∧ ∃ f', Arr w' base g c n f' ∧ Rot a m b f f' ∧ w.grownBy w' (some g)

end Go.Proofs.Ytnjgffhhalaknaa
