/-
  Contracts of package graph: Find; slices.IndexFunc, slices.Index, slices.Contains as they are used there. Condition: at most 2^40 links or numbers.
-/
import Derived.Test.YtmfmjdkeoiebpaaGraphA
import Derived.Shelf.Abstract
import Derived.Laws.EntriesVeiled
namespace Go.Proofs.Ytmfmjdkeoiebpaa
set_option maxRecDepth 100000
open Go.RowKit

/-- Does a link lead from one node to another one? -/
def isE (f t : Int) (x : Lk) : Bool := x.f == f && x.t == t
/-- The first link from a node to another one. -/
def fndL (L : List Lk) (f t : Int) : Int := match L.findIdx? (isE f t) with | some i => (i : Int) | none => -1
theorem fndL_hit {L : List Lk} {f t : Int} {i : Nat} (hi : i < L.length) (hb : ∀ k (hk : k < L.length), k < i → isE f t L[k] = false) (h : isE f t L[i] = true) : fndL L f t = (i : Int) := by
  unfold fndL
  rw [List.findIdx?_eq_some_iff_getElem.2 ⟨hi, h, fun j hj => by have := hb j (by omega) hj; simp [this]⟩]
theorem fndL_none {L : List Lk} {f t : Int} (h : ∀ k (hk : k < L.length), isE f t L[k] = false) : fndL L f t = -1 := by
  unfold fndL
  rw [List.findIdx?_eq_none_iff.2 (fun x hx => by obtain ⟨k, hk, rfl⟩ := List.mem_iff_getElem.1 hx; exact h k hk)]
theorem fndL_cases (L : List Lk) (f t : Int) : (fndL L f t = -1 ∧ ∀ x ∈ L, isE f t x = false) ∨ ∃ i : Nat, ∃ hi : i < L.length, fndL L f t = (i : Int) ∧ isE f t L[i] = true := by
  unfold fndL
  cases h : L.findIdx? (isE f t) with
  | none => exact .inl ⟨rfl, List.findIdx?_eq_none_iff.1 h⟩
  | some i =>
    obtain ⟨hi, h1, _⟩ := List.findIdx?_eq_some_iff_getElem.1 h
    exact .inr ⟨i, hi, rfl, h1⟩

end Go.Proofs.Ytmfmjdkeoiebpaa
