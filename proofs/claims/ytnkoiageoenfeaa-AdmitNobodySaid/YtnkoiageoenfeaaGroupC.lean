/-
  The code of layer 12 (group): has, coversAny, Allows, Right, Covers, and what the laws ask first of all. Condition: groups are numbers of 32 bits.
-/
import Derived.Test.YtnkoiageoenfeaaGroupB
import Derived.Laws.BitsAllLaws
namespace Go.Proofs.Ytnkoiageoenfeaa
set_option maxRecDepth 100000
set_option linter.unusedVariables false
open Go.RowKit

theorem cast_ne0 (n : Nat) : ((n : Int) != 0) = (n != 0) := by
  by_cases h : n = 0
  · subst h; rfl
  · rw [bne_iff_ne.2 h, bne_iff_ne.2 (by omega : (n : Int) ≠ 0)]
theorem cast_eq0 (n : Nat) : ((n : Int) == 0) = (n == 0) := by
  by_cases h : n = 0
  · subst h; rfl
  · rw [beq_false_of_ne h, beq_false_of_ne (by omega : (n : Int) ≠ 0)]
theorem cast_eq (n m : Nat) : ((n : Int) == (m : Int)) = (n == m) := by
  by_cases h : n = m
  · subst h; simp
  · rw [beq_false_of_ne h, beq_false_of_ne (by omega : (n : Int) ≠ (m : Int))]

theorem right12_calls (x : Wn) (w : World) : Calls Try.prog 39 #[.agg #[.int .u64 (x.bw : Int), .int .i64 x.su, .int .i64 x.ho, .int .u32 (x.an : Int), .int .u32 (x.al : Int), .int .u32 (x.no : Int)]] w (Yes12 (wRight x) w) := by
  obtain ⟨b, s, h, an, al, no⟩ := x
  unfold Yes12 wRight
  simp only
  by_cases h1 : 0 ≤ h
  · by_cases h2 : h ≤ s
    · have hd : decide (0 ≤ s ∧ s ≤ 7 ∧ 0 ≤ h ∧ h ≤ s) = decide (s ≤ 7) := decide_eq_decide.2 (by omega)
      rw [hd]
      go_enter Try.func39, Try.ntmps39
      go_wp2_with fail
      go_ret
      exact ⟨rfl, bel_new (Below.refl _ _) _⟩
    · have hd : decide (0 ≤ s ∧ s ≤ 7 ∧ 0 ≤ h ∧ h ≤ s) = false := decide_eq_false (by omega)
      rw [hd]
      go_enter Try.func39, Try.ntmps39
      go_wp2_with fail
      go_ret
      exact ⟨rfl, bel_new (Below.refl _ _) _⟩
  · have hd : decide (0 ≤ s ∧ s ≤ 7 ∧ 0 ≤ h ∧ h ≤ s) = false := decide_eq_false (by omega)
    rw [hd]
    go_enter Try.func39, Try.ntmps39
    go_wp2_with fail
    go_ret
    exact ⟨rfl, bel_new (Below.refl _ _) _⟩

end Go.Proofs.Ytnkoiageoenfeaa
