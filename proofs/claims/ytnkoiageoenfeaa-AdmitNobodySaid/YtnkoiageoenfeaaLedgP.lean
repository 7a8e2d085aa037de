/-
  The document's answers of layer 13 (viaductref13): Put, Take. Condition: numbers of 64 bits, eight priorities.
-/
import Derived.Test.YtnkoiageoenfeaaLedgR
namespace Go.Proofs.Ytnkoiageoenfeaa
set_option maxRecDepth 100000
set_option linter.unusedVariables false
open Go.RowKit

/-- A ledger and a number. -/
def Lgn13 (r : Lg × Int) (w : World) (e : Ending) (w' : World) : Prop := e = .returned (.tuple #[.agg (lgc r.1).toArray, .int .i64 r.2]) ∧ Below w.heap.size w w'
/-- The cells of nothing. -/
def z9 : List Value := [.int .u64 0, .int .u64 0, .int .u64 0, .int .u64 0, .int .u64 0, .int .u64 0, .int .u64 0, .int .u64 0, .int .u64 0]
theorem lgc_lz : lgc lz = z9 := rfl
theorem z9_one : ∀ u ∈ z9, u.oneCell' = true := by rw [← lgc_lz]; exact lgc_one lz

end Go.Proofs.Ytnkoiageoenfeaa
