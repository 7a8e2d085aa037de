/-
  What the code of layer 13 (ledger) must keep, and what the laws ask first of all, under that. Condition: as its theorems say.
-/
import Derived.Test.YtmffmoflelnmoaaLedgPT
namespace Go.Proofs.Ytmffmoflelnmoaa
set_option maxRecDepth 100000
set_option linter.unusedVariables false
open Go.RowKit

def AddOk13 : Prop := ∀ a b : Nat, a < 18446744073709551616 → b < 18446744073709551616 → ∀ w, Calls Try.prog 47 #[.int .u64 (a : Int), .int .u64 (b : Int)] w (Two13 (a + b) w)
def SumOk13 : Prop := ∀ l, LgOk l → ∀ w, Calls Try.prog 80 #[.agg (lgc l).toArray] w (Two13 l.held.sum w)
def RightOk13 : Prop := ∀ l, LgOk l → ∀ w, Calls Try.prog 65 #[.agg (lgc l).toArray] w fun e w' => e = .returned (.bool (lRight l)) ∧ Below w.heap.size w w'
def FreeOk13 : Prop := ∀ l, LgOk l → ∀ w, Calls Try.prog 22 #[.agg (lgc l).toArray] w fun e w' => e = .returned (.agg (hlc (lFree l)).toArray) ∧ Below w.heap.size w w'
def PutOk13 : Prop := ∀ l, LgOk l → ∀ p : Int, -9223372036854775808 ≤ p → p < 9223372036854775808 → ∀ b : Nat, b < 18446744073709551616 → ∀ w, Calls Try.prog 50 #[.agg (lgc l).toArray, .int .i64 p, .int .u64 (b : Int)] w (Lgn13 (lPut l p b) w)
theorem infoLedg9 (l : Lg) (h : LgOk l) : (Try.prog.info? 65).map (·.size) = some (lgc l).length := by rw [lgc_length h]; exact infoLedgL
end Go.Proofs.Ytmffmoflelnmoaa
