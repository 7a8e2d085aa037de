/-
  Contracts of package octet: the reader's methods ready, next, Bytes. Conditions: the reader is one that New made.
-/
import Derived.Test.YtkbbnfinmipenaaOctB
namespace Go.Proofs.Ytkbbnfinmipenaa
open Go.RowKit

/-- The error that a reader has behind a question for 'n' bytes. -/
def errOf (err : Int) (ok : Bool) (n left : Int) : Int := if err = 0 then (if ok then (if left < n then 4 else 0) else 2) else err

section
variable {w : World} {r g i : Nat} {l : List UInt8} {err : Int}

theorem upd_set (w : World) (r k : Nat) (u : Value) : w.grownBy (w.setCell ⟨r, k, none⟩ u) (some r) :=
  ⟨rfl, rfl, rfl, by simp [World.setCell], fun j _ hj => Below.heap_setCell _ _ _ _ (fun e => hj (by rw [e]))⟩
theorem upd_drewN {a w : World} {row : Option Nat} (h : a.grownBy w row) (n : Nat) : a.grownBy (w.drewN n) row := ⟨h.os, h.tape, h.output, h.size, h.block⟩
theorem upd_below {a w : World} (h : Below a.heap.size a w) (row : Option Nat) : a.grownBy w row := ⟨h.os, h.tape, h.output, h.size, fun i hi _ => h.block i hi⟩

theorem upd_trans {a b c : World} {row : Option Nat} (h : a.grownBy b row) (k : b.grownBy c row) : a.grownBy c row :=
  ⟨k.os.trans h.os, k.tape.trans h.tape, k.output.trans h.output, Nat.le_trans h.size k.size, fun i hi hne => (k.block i (Nat.lt_of_lt_of_le hi h.size) hne).trans (h.block i hi hne)⟩

end
end Go.Proofs.Ytkbbnfinmipenaa
