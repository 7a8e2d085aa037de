/-
  Contracts of what the statements of layer 7 do to items and objects: Ours, Theirs, ours, theirs. No condition.
-/
import Derived.Test.YthmgpffpiggomaaBodyGI
namespace Go.Proofs.Ythmgpffpiggomaa
open Go.RowKit

/-- The same item is answered. -/
def ConvPost (w : World) (x : It) (e : Ending) (w' : World) : Prop := e = .returned (.agg x.cells.toArray) ∧ Below w.heap.size w w'

end Go.Proofs.Ythmgpffpiggomaa
