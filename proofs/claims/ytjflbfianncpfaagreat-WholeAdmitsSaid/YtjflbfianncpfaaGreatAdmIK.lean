/-
  The laws' own helpers of layer 14: like entries, like keys (same, Keys). Condition: fewer than a thousand million.
  The laws' own helpers of layer 14: find, held. Condition: fewer than a thousand million; numbers of 64 bits.
  The laws' own helper of layer 14: what entries hold by going through all of them (held). Condition: fewer than a thousand million; numbers of 64 bits.
-/
import Derived.Test.YtjflbfianncpfaaGreatAdmAH
import Derived.Test.YtjflbfianncpfaaGreatGroupMC
import Derived.Test.YtjflbfianncpfaaGreatLedgMK
namespace Go.Proofs.YtjflbfianncpfaaGreat
set_option maxRecDepth 100000
set_option linter.unusedVariables false
open Go.RowKit

theorem ne_selfK14 (y : Ky) (w : World) : (binOp .neq 25 (.agg (kyc y).toArray) (.agg (kyc y).toArray)).run Tryz.prog w = .ok (.bool (!true)) w :=
  (eql_E (xs := kyc y) (ys := kyc y) (la := kyc y) (lb := kyc y) (m := 5) (D := 5) (by decide) (by kernel_rfl) (by rfl) (by rfl) (by rfl) (by rfl) w true (by simp)).2


end Go.Proofs.YtjflbfianncpfaaGreat

namespace Go.Proofs.YtjflbfianncpfaaGreat
set_option maxRecDepth 100000
set_option linter.unusedVariables false
open Go.RowKit

def zw14 : Wn := ⟨0, 0, 0, 0, 0, 0⟩
theorem wnc_one (v : Wn) : ∀ u ∈ wnc v, u.oneCell' = true := by intro u hu; simp [wnc] at hu; rcases hu with rfl | rfl | rfl | rfl | rfl | rfl <;> rfl
theorem sizeWant14 : (Tryz.prog.info? 29).map (·.size) = some 6 := by kernel_rfl
def FindP14 (r : Option Et) (w : World) (e : Ending) (w' : World) : Prop := e = .returned (.tuple #[.agg (wnc (r.elim zw14 (·.w))).toArray, .bool r.isSome]) ∧ Below w.heap.size w w'
theorem find_snoc14 {l : List Et} {i : Nat} {y : Et} {k : Ky} (hy : l[i]? = some y) (h : (l.take i).find? (fun y => decide (y.k = k)) = none) (hk : decide (y.k = k) = false) : (l.take (i + 1)).find? (fun y => decide (y.k = k)) = none := by
  rw [take_snoc14 hy, List.find?_append, h]
  simp [hk]
theorem find_hit14 {l : List Et} {i : Nat} {y : Et} {k : Ky} (hy : l[i]? = some y) (h : (l.take i).find? (fun y => decide (y.k = k)) = none) (hk : decide (y.k = k) = true) : l.find? (fun y => decide (y.k = k)) = some y := by
  have h2 : l.take (i + 1) ++ l.drop (i + 1) = l := List.take_append_drop _ _
  rw [← h2, List.find?_append, take_snoc14 hy, List.find?_append, h]
  simp [hk]
end Go.Proofs.YtjflbfianncpfaaGreat

namespace Go.Proofs.YtjflbfianncpfaaGreat
set_option maxRecDepth 100000
set_option linter.unusedVariables false
open Go.RowKit

/-- The most, and whether none was met ahead of place i, among the first j. -/
def hmj (l : List Et) (x : Et) (j : Nat) : Nat := (l.take j).foldl (fun m y => if kKin x.k y.k = true then max m y.w.bw else m) x.w.bw
def hfj (l : List Et) (x : Et) (i j : Nat) : Bool := !((l.take j).take i).any fun y => kKin x.k y.k
theorem hmj_succ {l : List Et} {x y : Et} {j : Nat} (hy : l[j]? = some y) : hmj l x (j + 1) = if kKin x.k y.k = true then max (hmj l x j) y.w.bw else hmj l x j := by
  unfold hmj
  rw [take_snoc14 hy, List.foldl_append]
  rfl
theorem hfj_succ {l : List Et} {x y : Et} {i j : Nat} (hy : l[j]? = some y) : hfj l x i (j + 1) = if kKin x.k y.k = true then (hfj l x i j && decide (i ≤ j)) else hfj l x i j := by
  have hlen : (l.take j).length = j := by
    rw [List.length_take]
    have := (List.getElem?_eq_some_iff.1 hy).1
    omega
  unfold hfj
  rw [take_snoc14 hy]
  by_cases h : i ≤ j
  · rw [List.take_append_of_le_length (by rw [hlen]; exact h), decide_eq_true h, Bool.and_true]
    split <;> rfl
  · rw [List.take_of_length_le (by rw [List.length_append, hlen]; simp; omega), List.take_of_length_le (l := l.take j) (by rw [hlen]; omega), decide_eq_false h, Bool.and_false, List.any_append]
    cases h2 : kKin x.k y.k <;> simp [h2]
theorem hmj_all (l : List Et) (x : Et) : hmj l x l.length = hmost l x := by unfold hmj hmost; rw [List.take_length]
theorem hfj_all (l : List Et) (x : Et) (i : Nat) : hfj l x i l.length = hfirst l i x := by unfold hfj hfirst; rw [List.take_length]
end Go.Proofs.YtjflbfianncpfaaGreat
