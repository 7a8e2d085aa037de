/-
  Contracts of package shim: within, May, number, entry. Conditions: none for within and May; number takes an entry that may be, entry a number of 32 bits.
-/
import Derived.Test.YtkbbnfinmipenaaOctF
namespace Go.Proofs.Ytkbbnfinmipenaa
open Go.RowKit

def wi (n m : Int) : Bool := decide (0 ≤ n) && decide (n ≤ m)
theorem wi_yes {n m : Int} (h1 : 0 ≤ n) (h2 : n ≤ m) : wi n m = true := by simp [wi, h1, h2]
theorem wi_no {n m : Int} (h : n < 0 ∨ m < n) : wi n m = false := by
  unfold wi
  rcases h with h | h
  · rw [decide_eq_false (by omega : ¬ 0 ≤ n)]; rfl
  · rw [decide_eq_false (by omega : ¬ n ≤ m)]; simp

theorem within_calls (n m : Int) (w : World) :
    Calls Try.prog 48 #[.int .i64 n, .int .i64 m] w fun e w' => e = .returned (.bool (wi n m)) ∧ w = w' := by
  by_cases h1 : 0 ≤ n
  · by_cases h2 : n ≤ m
    · have hw := wi_yes h1 h2
      go_enter Try.func48, Try.ntmps48
      go_wp2
      go_ret
      exact ⟨by first | rfl | (rw [hw]; rfl), rfl⟩
    · have hw := wi_no (n := n) (m := m) (.inr (by omega))
      go_enter Try.func48, Try.ntmps48
      go_wp2
      go_ret
      exact ⟨by first | rfl | (rw [hw]; rfl), rfl⟩
  · have hw := wi_no (n := n) (m := m) (.inl (by omega))
    go_enter Try.func48, Try.ntmps48
    go_wp2
    go_ret
    exact ⟨by first | rfl | (rw [hw]; rfl), rfl⟩

/-- May an entry be? -/
def may (x y z : Int) : Bool := wi x 1048575 && (wi y 7 && wi z 255)
theorem may_yes {x y z : Int} (h : may x y z = true) : 0 ≤ x ∧ x ≤ 1048575 ∧ 0 ≤ y ∧ y ≤ 7 ∧ 0 ≤ z ∧ z ≤ 255 := by
  simp [may, wi] at h
  exact ⟨h.1.1, h.1.2, h.2.1.1, h.2.1.2, h.2.2.1, h.2.2.2⟩

theorem may_calls (x y z : Int) (w : World) :
    Calls Try.prog 28 #[.agg #[.int .i64 x, .int .i64 y, .int .i64 z]] w fun e w' => e = .returned (.bool (may x y z)) ∧ w' = w.alloc (.cells #[.int .i64 x, .int .i64 y, .int .i64 z] 61) := by
  go_enter Try.func28, Try.ntmps28
  go_wp2_with fail
  ((with_reducible refine (within_calls x 1048575 _).mono ?_))
  rintro e w1 ⟨rfl, rfl⟩
  cases hx : wi x 1048575
  · go_wp2
    go_ret
    exact ⟨by simp [may, hx], rfl⟩
  · go_wp2_with fail
    ((with_reducible refine (within_calls y 7 _).mono ?_))
    rintro e w1 ⟨rfl, rfl⟩
    cases hy : wi y 7
    · go_wp2
      go_ret
      exact ⟨by simp [may, hx, hy], rfl⟩
    · go_wp2_with fail
      ((with_reducible refine (within_calls z 255 _).mono ?_))
      rintro e w1 ⟨rfl, rfl⟩
      go_wp2
      go_ret
      exact ⟨by simp [may, hx, hy], rfl⟩

/-- The number of an entry that may be. -/
def encI (x y z : Int) (last : Bool) : Int := x * 4096 + y * 512 + z + (if last then 256 else 0)

end Go.Proofs.Ytkbbnfinmipenaa
