/-
  The document's answers of layer 12 (viaductref12): Allows, Right, Covers. Condition: groups are numbers of 32 bits.
-/
import Derived.Test.YtnkoiageoenfeaaGroupA
namespace Go.Proofs.Ytnkoiageoenfeaa
set_option maxRecDepth 100000
set_option linter.unusedVariables false
open Go.RowKit

/-- A yes or no, and memory is only more. -/
def Yes12 (b : Bool) (w : World) (e : Ending) (w' : World) : Prop := e = .returned (.bool b) ∧ Below w.heap.size w w'

theorem rright12_calls (x : Wn) (w : World) : Calls Try.prog 31 #[.agg #[.int .u64 (x.bw : Int), .int .i64 x.su, .int .i64 x.ho, .int .u32 (x.an : Int), .int .u32 (x.al : Int), .int .u32 (x.no : Int)]] w (Yes12 (wRight x) w) := by
  obtain ⟨b, s, h, an, al, no⟩ := x
  unfold Yes12 wRight
  simp only
  by_cases h1 : 0 ≤ s
  · by_cases h2 : s ≤ 7
    · by_cases h3 : 0 ≤ h
      · have hd : decide (0 ≤ s ∧ s ≤ 7 ∧ 0 ≤ h ∧ h ≤ s) = decide (h ≤ s) := decide_eq_decide.2 (by omega)
        rw [hd]
        go_enter Try.func31, Try.ntmps31
        go_wp2
        go_ret
        exact ⟨rfl, bel_new (Below.refl _ _) _⟩
      · have hd : decide (0 ≤ s ∧ s ≤ 7 ∧ 0 ≤ h ∧ h ≤ s) = false := decide_eq_false (by omega)
        rw [hd]
        go_enter Try.func31, Try.ntmps31
        go_wp2
        go_ret
        exact ⟨rfl, bel_new (Below.refl _ _) _⟩
    · have hd : decide (0 ≤ s ∧ s ≤ 7 ∧ 0 ≤ h ∧ h ≤ s) = false := decide_eq_false (by omega)
      rw [hd]
      go_enter Try.func31, Try.ntmps31
      go_wp2
      go_ret
      exact ⟨rfl, bel_new (Below.refl _ _) _⟩
  · have hd : decide (0 ≤ s ∧ s ≤ 7 ∧ 0 ≤ h ∧ h ≤ s) = false := decide_eq_false (by omega)
    rw [hd]
    go_enter Try.func31, Try.ntmps31
    go_wp2
    go_ret
    exact ⟨rfl, bel_new (Below.refl _ _) _⟩

end Go.Proofs.Ytnkoiageoenfeaa
