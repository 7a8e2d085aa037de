/-
  Contracts of package shim: within, May, number, entry. Conditions: none for within and May; number takes an entry that may be, entry a number of 32 bits.
-/
import Derived.Test.YtjfjfmpdgcokdaaOctF
namespace Go.Proofs.Ytjfjfmpdgcokdaa
open Go.RowKit

def wi (n m : Int) : Bool := decide (0 ≤ n) && decide (n ≤ m)
theorem wi_yes {n m : Int} (h1 : 0 ≤ n) (h2 : n ≤ m) : wi n m = true := by simp [wi, h1, h2]
theorem wi_no {n m : Int} (h : n < 0 ∨ m < n) : wi n m = false := by
  unfold wi
  rcases h with h | h
  · rw [decide_eq_false (by omega : ¬ 0 ≤ n)]; rfl
  · rw [decide_eq_false (by omega : ¬ n ≤ m)]; simp

theorem within_calls (n m : Int) (w : World) :
    Calls Try.prog 23 #[.int .i64 n, .int .i64 m] w fun e w' => e = .returned (.bool (wi n m)) ∧ w = w' := by
  by_cases h1 : 0 ≤ n
  · by_cases h2 : n ≤ m
    · have hw := wi_yes h1 h2
      go_enter Try.func23, Try.ntmps23
      go_wp2
      go_ret
      exact ⟨by first | rfl | (rw [hw]; rfl), rfl⟩
    · have hw := wi_no (n := n) (m := m) (.inr (by omega))
      go_enter Try.func23, Try.ntmps23
      go_wp2
      go_ret
      exact ⟨by first | rfl | (rw [hw]; rfl), rfl⟩
  · have hw := wi_no (n := n) (m := m) (.inl (by omega))
    go_enter Try.func23, Try.ntmps23
    go_wp2
    go_ret
    exact ⟨by first | rfl | (rw [hw]; rfl), rfl⟩

/-- May an entry be? -/
def may (x y z : Int) : Bool := wi x 1048575 && (wi y 7 && wi z 255)
theorem may_yes {x y z : Int} (h : may x y z = true) : 0 ≤ x ∧ x ≤ 1048575 ∧ 0 ≤ y ∧ y ≤ 7 ∧ 0 ≤ z ∧ z ≤ 255 := by
  simp [may, wi] at h
  exact ⟨h.1.1, h.1.2, h.2.1.1, h.2.1.2, h.2.2.1, h.2.2.2⟩

theorem may_calls (x y z : Int) (w : World) :
    Calls Try.prog 12 #[.agg #[.int .i64 x, .int .i64 y, .int .i64 z]] w fun e w' => e = .returned (.bool (may x y z)) ∧ w' = w.alloc (.cells #[.int .i64 x, .int .i64 y, .int .i64 z] 24) := by
  go_enter Try.func12, Try.ntmps12
  go_wp2_with fail
  ((with_reducible refine (within_calls x 1048575 _).mono ?_))
  rintro e w1 ⟨rfl, rfl⟩
  cases hx : wi x 1048575
  · go_wp2
    go_ret
    exact ⟨by simp [may, hx], rfl⟩
  · go_wp2_with fail
    ((with_reducible refine (within_calls y 7 _).mono ?_))
    rintro e w1 ⟨rfl, rfl⟩
    cases hy : wi y 7
    · go_wp2
      go_ret
      exact ⟨by simp [may, hx, hy], rfl⟩
    · go_wp2_with fail
      ((with_reducible refine (within_calls z 255 _).mono ?_))
      rintro e w1 ⟨rfl, rfl⟩
      go_wp2
      go_ret
      exact ⟨by simp [may, hx, hy], rfl⟩

/-- The number of an entry that may be. -/
def encI (x y z : Int) (last : Bool) : Int := x * 4096 + y * 512 + z + (if last then 256 else 0)

theorem number_calls3 (x y z : Int) (last : Bool) (w : World) (hx : 0 ≤ x) (hx2 : x ≤ 1048575) (hy : 0 ≤ y) (hy2 : y ≤ 7) (hz : 0 ≤ z) (hz2 : z ≤ 255) :
    Calls Try.prog 21 #[.agg #[.int .i64 x, .int .i64 y, .int .i64 z], .bool last] w fun e w' => e = .returned (.int .u64 (encI x y z last)) ∧ w' = w.alloc (.cells #[.int .i64 x, .int .i64 y, .int .i64 z] 24) := by
  cases last
  · go_enter Try.func21, Try.ntmps21
    go_wp2
    go_ret
    exact ⟨by simp [encI], rfl⟩
  · go_enter Try.func21, Try.ntmps21
    go_wp2
    go_ret
    exact ⟨by simp [encI], rfl⟩

theorem entry_calls (u : Int) (w : World) (h0 : 0 ≤ u) (h1 : u < 4294967296) :
    Calls Try.prog 27 #[.int .u64 u] w fun e w' => e = .returned (.tuple #[.agg #[.int .i64 (u / 4096), .int .i64 (u % 4096 / 512), .int .i64 (u % 256)], .bool (decide (256 ≤ u % 512))]) ∧ Below w.heap.size w w' := by
  go_enter Try.func27, Try.ntmps27
  go_wp2
  refine bodyPost_ret (v := .tuple #[.agg #[.int .i64 (u / 4096), .int .i64 (u % 4096 / 512), .int .i64 (u % 256)], .bool (decide (256 ≤ u % 512))]) (by simp [results, Try.results27, go_sem]) rfl ⟨rfl, ?_⟩

  exact ((Below.refl _ _).alloc (Nat.le_refl _) _).alloc (by simp) _
end Go.Proofs.Ytjfjfmpdgcokdaa
