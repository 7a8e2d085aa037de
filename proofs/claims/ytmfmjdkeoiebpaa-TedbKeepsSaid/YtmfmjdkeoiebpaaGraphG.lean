/-
  Contracts of package graph: Route. Conditions: at most 2^30 links and nodes; Metrics of at most 2^40.
-/
import Derived.Test.YtmfmjdkeoiebpaaGraphC
import Derived.Test.YtmfmjdkeoiebpaaGrSU
namespace Go.Proofs.Ytmfmjdkeoiebpaa
set_option maxRecDepth 100000
open Go.RowKit

/-- The Metric of the link from a node to another one. -/
def mtr (L : List Lk) (a b : Int) : Int := (L.getD (fndL L a b).toNat default).m
/-- What the first nodes of a route cost. -/
def cst (L : List Lk) (r : List Int) : Nat → Int
  | 0 => 0
  | 1 => 0
  | i + 2 => cst L r (i + 1) + mtr L (r.getD i 0) (r.getD (i + 1) 0)
/-- A node is new, and a link leads to it from the one ahead of it. -/
def StepOk (L : List Lk) (r : List Int) (j : Nat) : Prop := 0 ≤ fndL L (r.getD (j - 1) 0) (r.getD j 0) ∧ r.getD j 0 ∉ r.take j
def RouteOk (L : List Lk) (r : List Int) : Prop := 2 ≤ r.length ∧ r.length ≤ 16 ∧ ∀ j, 1 ≤ j → j < r.length → StepOk L r j
def SmallL (L : List Lk) : Prop := ∀ x ∈ L, -1099511627776 ≤ x.m ∧ x.m ≤ 1099511627776
theorem mtr_small {L : List Lk} (h : SmallL L) (a b : Int) : -1099511627776 ≤ mtr L a b ∧ mtr L a b ≤ 1099511627776 := by
  unfold mtr
  rcases Nat.lt_or_ge (fndL L a b).toNat L.length with hl | hl
  · rw [List.getD_eq_getElem?_getD, List.getElem?_eq_getElem hl]
    exact h _ (List.getElem_mem hl)
  · rw [List.getD_eq_getElem?_getD, List.getElem?_eq_none hl]
    exact ⟨by decide, by decide⟩
theorem cst_small {L : List Lk} (h : SmallL L) (r : List Int) : ∀ i : Nat, -((i : Int) * 1099511627776) ≤ cst L r i ∧ cst L r i ≤ (i : Int) * 1099511627776
  | 0 => by simp [cst]
  | 1 => by simp [cst]
  | i + 2 => by
    have h1 := cst_small h r (i + 1)
    have h2 := mtr_small h (r.getD i 0) (r.getD (i + 1) 0)
    simp only [cst]
    omega
def RoutePost (w : World) (L : List Lk) (r : List Int) (e : Ending) (w' : World) : Prop :=
  Below w.heap.size w w' ∧ ((RouteOk L r ∧ e = .returned (.tuple #[.int .i64 (cst L r r.length), .int .i64 0])) ∨ (¬ RouteOk L r ∧ e = .returned (.tuple #[.int .i64 0, .int .i64 12])))

end Go.Proofs.Ytmfmjdkeoiebpaa
