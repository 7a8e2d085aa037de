/-
  Contract of shim.Encode. Condition: the entries that come in read as a list.
-/
import Derived.Test.YtkbbnfinmipenaaShimM
namespace Go.Proofs.Ytkbbnfinmipenaa
open Go.RowKit

def encErr (es : List (Int × Int × Int)) : Int := if 8 < es.length then 3 else if es.all mE = true then 0 else 2
def encR (es : List (Int × Int × Int)) : List UInt8 := if encErr es = 0 then encL es else []
theorem encErr_big {es : List (Int × Int × Int)} (h : 8 < es.length) : encErr es = 3 := by unfold encErr; rw [if_pos h]
theorem encErr_arg {es : List (Int × Int × Int)} (h : es.length ≤ 8) {e : Int × Int × Int} (he : e ∈ es) (hm : mE e = false) : encErr es = 2 := by
  unfold encErr
  rw [if_neg (by omega), if_neg]
  intro hall
  rw [List.all_eq_true] at hall
  rw [hall e he] at hm; cases hm
theorem encErr_ok {es : List (Int × Int × Int)} (h : es.length ≤ 8) (hm : ∀ e ∈ es, mE e = true) : encErr es = 0 := by
  unfold encErr
  rw [if_neg (by omega), if_pos (List.all_eq_true.2 hm)]
theorem encErr_zero {es : List (Int × Int × Int)} (h : encErr es = 0) : es.length ≤ 8 ∧ ∀ e ∈ es, mE e = true := by
  unfold encErr at h
  by_cases h8 : 8 < es.length
  · rw [if_pos h8] at h; simp at h
  · rw [if_neg h8] at h
    by_cases ha : es.all mE = true
    · exact ⟨by omega, List.all_eq_true.1 ha⟩
    · rw [if_neg ha] at h; simp at h
theorem encR_ok {es : List (Int × Int × Int)} (h : encErr es = 0) : encR es = encL es := by unfold encR; rw [if_pos h]
theorem encR_no {es : List (Int × Int × Int)} (h : encErr es ≠ 0) : encR es = [] := by unfold encR; rw [if_neg h]

def EncPost (w : World) (es : List (Int × Int × Int)) (e : Ending) (w' : World) : Prop :=
  ∃ A c, e = .returned (.tuple #[.slice A (encR es).length c, .int .i64 (encErr es)]) ∧ Bts w' w'.heap.size A (encR es).length (encR es) ∧ Below w.heap.size w w'

theorem encPost_no {w w' : World} {es : List (Int × Int × Int)} {e : Ending} {err : Int} (h : encErr es = err) (h0 : err ≠ 0) (he : e = .returned (.tuple #[.slice none 0 0, .int .i64 err])) (hb : Below w.heap.size w w') : EncPost w es e w' := by
  have hr : encR es = [] := encR_no (by rw [h]; exact h0)
  refine ⟨none, 0, ?_, ?_, hb⟩
  · rw [hr, h, he]; rfl
  · rw [hr]; exact Bts.nil

end Go.Proofs.Ytkbbnfinmipenaa
