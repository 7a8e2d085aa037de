/-
  The library's stable sort of whole numbers by a function, its parts: two neighboring ranges that are in order are merged, one on the right. Condition: at most 2^40 numbers, in memory that the call itself made; a comparison that only reads, of numbers that it may be asked for.
-/
import Derived.Test.YtmffmoflelnmoaaGrV
namespace Go.Proofs.Ytmffmoflelnmoaa
open Go.RowKit

section
variable {S : World → Prop} {D : Int → Prop} {key : Int → Int} {F : FuncId} {held : Array Value}

end
end Go.Proofs.Ytmffmoflelnmoaa
