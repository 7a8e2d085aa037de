/-
  The laws' None, all (viaductlaw15). Condition: fewer than 2^30 adverts.
-/
import Derived.Test.YtjflbfianncpfaaGreatTedAE
namespace Go.Proofs.YtjflbfianncpfaaGreat
set_option maxRecDepth 100000
set_option linter.unusedVariables false
open Go.RowKit

def OurT15 (l : List Ad) (w : World) (e : Ending) (w' : World) : Prop := ∃ A c, e = .returned (.slice A l.length c) ∧ AccT15 w' w.heap.size A c l ∧ Below w.heap.size w w'
end Go.Proofs.YtjflbfianncpfaaGreat
