/-
  Contracts of package octet: Pad, New, and the reader's methods Err, Left, ready, next. Conditions: a reader is one that New made (or nil, or of zero value), its bytes lie in a block of their own.
-/
import Derived.Test.YtkbbnfinmipenaaOctA
namespace Go.Proofs.Ytkbbnfinmipenaa
open Go.RowKit

/-- How many noughts make a length a multiple of four. -/
def gap (n : Nat) : Nat := (4 - n % 4) % 4
/-- Padded bytes. -/
def padL (l : List UInt8) : List UInt8 := l ++ List.replicate (gap l.length) 0
theorem gap_lt (n : Nat) : gap n < 4 := by unfold gap; omega
theorem padL_length (l : List UInt8) : (padL l).length = l.length + gap l.length := by simp [padL]

def PadPost (w : World) (l : List UInt8) (e : Ending) (w' : World) : Prop :=
  e = .returned (.slice (some ⟨w.heap.size, 0, none⟩) (padL l).length (padL l).length) ∧ Own w' w.heap.size (padL l) ∧ Below w.heap.size w w'

section
variable {w : World} {r g i : Nat} {l : List UInt8} {err : Int}
end
end Go.Proofs.Ytkbbnfinmipenaa
