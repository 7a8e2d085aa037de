/-
  Contracts of package octet for readers that New did not make: nil, and the zero value. Conditions: none beside that.
-/
import Derived.Test.YtkjkgjkjjiejaaaOctF
namespace Go.Proofs.Ytkjkgjkjjiejaaa
open Go.RowKit

/-- A reader of zero value lies in block 'r'. -/
def Zdr (w : World) (r : Nat) : Prop := w.heap[r]? = some (.cells #[.bool false, .slice none 0 0, .int .i64 0, .int .i64 0] 53 (0, 0))

section
variable {w : World} {r : Nat}

theorem Zdr.lt (h : Zdr w r) : r < w.heap.size := by
  rcases Nat.lt_or_ge r w.heap.size with hlt | hge
  · exact hlt
  · unfold Zdr at h; rw [Array.getElem?_eq_none hge] at h; cases h
theorem Zdr.c0 (h : Zdr w r) : w.cell? ⟨r, 0, none⟩ = some (.bool false) := (cell_of_row w r 0 _ _ _ h).trans rfl
theorem Zdr.c1 (h : Zdr w r) : w.cell? ⟨r, 1, none⟩ = some (.slice none 0 0) := (cell_of_row w r 1 _ _ _ h).trans rfl
theorem Zdr.c2 (h : Zdr w r) : w.cell? ⟨r, 2, none⟩ = some (.int .i64 0) := (cell_of_row w r 2 _ _ _ h).trans rfl
theorem Zdr.drewN (h : Zdr w r) (m : Nat) : Zdr (w.drewN m) r := h

theorem err_nil (w : World) : Calls Try.prog 17 #[.pointer none] w fun e w' => e = .returned (.int .i64 1) ∧ w = w' := by
  go_enter Try.func17, Try.ntmps17
  go_wp2
  go_ret
  exact ⟨rfl, rfl⟩
theorem err_zero (h : Zdr w r) : Calls Try.prog 17 #[.pointer (some ⟨r, 0, none⟩)] w fun e w' => e = .returned (.int .i64 1) ∧ w = w' := by
  have c0 := h.c0
  clear h
  go_enter Try.func17, Try.ntmps17
  go_wp2
  go_ret
  exact ⟨rfl, rfl⟩
theorem left_nil (w : World) : Calls Try.prog 15 #[.pointer none] w fun e w' => e = .returned (.int .i64 0) ∧ w = w' := by
  go_enter Try.func15, Try.ntmps15
  go_wp2
  go_ret
  exact ⟨rfl, rfl⟩
theorem left_zero (h : Zdr w r) : Calls Try.prog 15 #[.pointer (some ⟨r, 0, none⟩)] w fun e w' => e = .returned (.int .i64 0) ∧ ∃ m, w' = w.drewN m := by
  have c1 := h.c1
  have c2 := h.c2
  clear h
  go_enter Try.func15, Try.ntmps15
  go_wp2
  go_quiet (fail)
  go_wp2
  go_ret
  exact ⟨rfl, _, rfl⟩

theorem ready_nil (n : Int) (ok : Bool) (w : World) : Calls Try.prog 23 #[.pointer none, .int .i64 n, .bool ok] w fun e w' => e = .returned (.bool false) ∧ w = w' := by
  go_enter Try.func23, Try.ntmps23
  go_wp2_with fail
  ((with_reducible refine (err_nil _).mono ?_))
  rintro e w' ⟨rfl, rfl⟩
  go_wp2
  go_ret
  exact ⟨rfl, rfl⟩
theorem ready_zero (h : Zdr w r) (n : Int) (ok : Bool) : Calls Try.prog 23 #[.pointer (some ⟨r, 0, none⟩), .int .i64 n, .bool ok] w fun e w' => e = .returned (.bool false) ∧ w = w' := by
  have H := Lib.hid h
  clear h
  go_enter Try.func23, Try.ntmps23
  go_wp2_with fail
  ((with_reducible refine (err_zero H.out).mono ?_))
  rintro e w' ⟨rfl, rfl⟩
  go_wp2
  go_ret
  exact ⟨rfl, rfl⟩

theorem uint_nil (n : Int) (w : World) : Calls Try.prog 13 #[.pointer none, .int .i64 n] w fun e w' => e = .returned (.int .u64 0) ∧ w = w' := by
  go_enter Try.func13, Try.ntmps13
  go_wp2_with fail
  ((with_reducible refine (isWidth_calls n _).mono ?_))
  rintro e w1 ⟨rfl, rfl⟩
  go_wp2_with fail
  ((with_reducible refine (ready_nil _ _ _).mono ?_))
  rintro e w' ⟨rfl, rfl⟩
  go_wp2
  go_ret
  exact ⟨rfl, rfl⟩
theorem uint_zero (h : Zdr w r) (n : Int) : Calls Try.prog 13 #[.pointer (some ⟨r, 0, none⟩), .int .i64 n] w fun e w' => e = .returned (.int .u64 0) ∧ w = w' := by
  have H := Lib.hid h
  clear h
  go_enter Try.func13, Try.ntmps13
  go_wp2_with fail
  ((with_reducible refine (isWidth_calls n _).mono ?_))
  rintro e w1 ⟨rfl, rfl⟩
  go_wp2_with fail
  ((with_reducible refine (ready_zero H.out _ _).mono ?_))
  rintro e w' ⟨rfl, rfl⟩
  go_wp2
  go_ret
  exact ⟨rfl, rfl⟩
theorem bytes_nil (n : Int) (w : World) : Calls Try.prog 11 #[.pointer none, .int .i64 n] w fun e w' => e = .returned (.slice none 0 0) ∧ w = w' := by
  go_enter Try.func11, Try.ntmps11
  go_wp2_with fail
  ((with_reducible refine (ready_nil _ _ _).mono ?_))
  rintro e w' ⟨rfl, rfl⟩
  go_wp2
  go_ret
  exact ⟨rfl, rfl⟩
theorem bytes_zero (h : Zdr w r) (n : Int) : Calls Try.prog 11 #[.pointer (some ⟨r, 0, none⟩), .int .i64 n] w fun e w' => e = .returned (.slice none 0 0) ∧ w = w' := by
  have H := Lib.hid h
  clear h
  go_enter Try.func11, Try.ntmps11
  go_wp2_with fail
  ((with_reducible refine (ready_zero H.out _ _).mono ?_))
  rintro e w' ⟨rfl, rfl⟩
  go_wp2
  go_ret
  exact ⟨rfl, rfl⟩
end
end Go.Proofs.Ytkjkgjkjjiejaaa
