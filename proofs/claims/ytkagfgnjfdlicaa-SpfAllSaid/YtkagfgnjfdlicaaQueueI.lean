/-
  The document's queue (viaductref10): Less, and the law's own helpers. No condition.
-/
import Derived.Test.YtkagfgnjfdlicaaQueueEH
namespace Go.Proofs.Ytkagfgnjfdlicaa
set_option maxRecDepth 100000
open Go.RowKit

def AggPost (x : Itm) (w : World) (e : Ending) (w' : World) : Prop := e = .returned (.agg (itL x).toArray) ∧ Below w.heap.size w w'
end Go.Proofs.Ytkagfgnjfdlicaa
