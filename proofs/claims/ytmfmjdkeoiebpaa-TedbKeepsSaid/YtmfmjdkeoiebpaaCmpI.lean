/-
  Contract of cmp.Compare of whole numbers. No condition.
-/
import Derived.Test.YtmfmjdkeoiebpaaMem
namespace Go.Proofs.Ytmfmjdkeoiebpaa
open Go.RowKit

/-- What a comparison answers. -/
def cmpI (x y : Int) : Int := if x < y then -1 else if y < x then 1 else 0
end Go.Proofs.Ytmfmjdkeoiebpaa
