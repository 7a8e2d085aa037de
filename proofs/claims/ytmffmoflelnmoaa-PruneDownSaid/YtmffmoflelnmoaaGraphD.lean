/-
  Contracts of package graph: Outs. Condition: at most 2^40 links.
-/
import Derived.Test.YtmffmoflelnmoaaGraphC
import Derived.Test.YtmffmoflelnmoaaGrY
import Derived.Test.YtmffmoflelnmoaaCmpI
namespace Go.Proofs.Ytmffmoflelnmoaa
set_option maxRecDepth 100000
open Go.RowKit

/-- Where a link leads, by its number. -/
def keyT (L : List Lk) (x : Int) : Int := (L.getD x.toNat default).t
/-- The links that lead from a node, among the first ones. -/
def gat (L : List Lk) (node : Int) (i : Nat) : List Int := ((List.range i).filter (fun k : Nat => (L.getD k default).f == node)).map (fun k : Nat => (k : Int))
theorem gat_succ (L : List Lk) (node : Int) (i : Nat) : gat L node (i + 1) = gat L node i ++ (if (L.getD i default).f == node then [(i : Int)] else []) := by
  unfold gat
  rw [List.range_succ, List.filter_append, List.map_append]
  congr 1
  generalize hb : ((L.getD i default).f == node) = b
  have hf : List.filter (fun k : Nat => (L.getD k default).f == node) [i] = if b = true then [i] else [] := by rw [List.filter_cons, hb]; rfl
  rw [hf]
  cases b <;> rfl
theorem gat_len (L : List Lk) (node : Int) (i : Nat) : (gat L node i).length ≤ i := by
  unfold gat
  rw [List.length_map]
  exact Nat.le_trans (List.length_filter_le _ _) (by simp)
theorem gat_rise (L : List Lk) (node : Int) (i : Nat) : (gat L node i).Pairwise (· < ·) := by
  unfold gat
  rw [List.pairwise_map]
  exact (List.Pairwise.filter _ List.pairwise_lt_range).imp (fun h => by omega)
theorem gat_mem (L : List Lk) (node x : Int) (i : Nat) : x ∈ gat L node i ↔ ∃ k : Nat, k < i ∧ (L.getD k default).f = node ∧ x = (k : Int) := by
  unfold gat
  simp only [List.mem_map, List.mem_filter, List.mem_range, beq_iff_eq]
  constructor
  · rintro ⟨k, ⟨h1, h2⟩, rfl⟩; exact ⟨k, h1, h2, rfl⟩
  · rintro ⟨k, h1, h2, rfl⟩; exact ⟨k, ⟨h1, h2⟩, rfl⟩
/-- The numbers of a node's links, by where they lead. -/
structure OutsOk (L : List Lk) (node : Int) (o : List Int) : Prop where
  order : o.Pairwise (fun x y => keyT L x < keyT L y ∨ keyT L x = keyT L y ∧ x < y)
  mem : ∀ x, x ∈ o ↔ ∃ k : Nat, k < L.length ∧ (L.getD k default).f = node ∧ x = (k : Int)
  len : o.length = (gat L node L.length).length
def OutsPost (w : World) (L : List Lk) (node : Int) (e : Ending) (w' : World) : Prop :=
  ∃ (o : List Int) (A : Option Addr) (c : Nat), e = .returned (.slice A o.length c) ∧ AccI w' w.heap.size A c o ∧ OutsOk L node o ∧ Below w.heap.size w w'

end Go.Proofs.Ytmffmoflelnmoaa
