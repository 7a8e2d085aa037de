/-
  Contracts of the document's Same for objects (one by one), of the statements' same, and of the document's Same for items. Condition: what comes in reads as lists.
-/
import Derived.Test.YthmgpffpiggomaaBodyJ
import Derived.Test.YthmgpffpiggomaaObjMD
namespace Go.Proofs.Ythmgpffpiggomaa
open Go.RowKit

/-- Are two objects the same? -/
def osame (x y : Int × Int × List UInt8) : Bool := x.1 == y.1 && (x.2.1 == y.2.1 && x.2.2 == y.2.2)
theorem osame_iff (x y : Int × Int × List UInt8) : osame x y = true ↔ x = y := by
  obtain ⟨a, b, c⟩ := x
  obtain ⟨d, e, f⟩ := y
  simp [osame]

end Go.Proofs.Ythmgpffpiggomaa
