/-
  The document's answers of layer 12 (viaductref12). Condition: groups are numbers of 32 bits.
-/
import Derived.Test.YtnkoiageoenfeaaGroupM
import Derived.Test.YtnkoiageoenfeaaBlk
namespace Go.Proofs.Ytnkoiageoenfeaa
set_option maxRecDepth 100000
set_option linter.unusedVariables false
open Go.RowKit

/-- The cells of a want. -/
def wnc (w : Wn) : List Value := [.int .u64 (w.bw : Int), .int .i64 w.su, .int .i64 w.ho, .int .u32 (w.an : Int), .int .u32 (w.al : Int), .int .u32 (w.no : Int)]
/-- A want's groups are numbers of 32 bits. -/
def WnOk (w : Wn) : Prop := w.an < 4294967296 ∧ w.al < 4294967296 ∧ w.no < 4294967296

end Go.Proofs.Ytnkoiageoenfeaa
