/-
  Whole numbers that a call itself gathers, sorted by the library. Condition: none beside what is said.
-/
import Derived.Test.YtpgbfjeejkeibaaInts
import Derived.Test.YtpgbfjeejkeibaaShelf
import Derived.Sort.OwnSortedInts
namespace Go.Proofs.Ytpgbfjeejkeibaa
open Go.RowKit

/-- What a sort leaves of such numbers. -/
theorem acci_sorted {w : World} {base c g n : Nat} {os : Array Obj} {l : List Int} (h : AccI w base (some ⟨g, 0, none⟩) c l) :
    AccI (Go.Sort.grow (Go.Sort.putRow (Value.int .i64) (Go.Sort.ahead w n) g 0 (l.mergeSort fun x y => decide (x ≤ y)).toArray) os) base (some ⟨g, 0, none⟩) c (l.mergeSort fun x y => decide (x ≤ y)) := by
  rcases h.2 with ⟨hv, _⟩ | ⟨g', cap, cur, hv, hbase, hb, h1, h2, h3, h4⟩
  · cases hv
  injection hv with e1 e2 e3
  injection e1 with e1
  injection e1 with e1
  subst e1
  subst e3
  have := ownsRow_sortedI (n := n) (os := os) (ss := l) (ts := l.mergeSort fun x y => decide (x ≤ y)) (by simp) hbase hb h1 h2 (by simpa using h3)
  unfold AccI AccR
  rw [ei_flat]
  simpa using this

theorem acci_holds {w : World} {base c g : Nat} {l : List Int} (h : AccI w base (some ⟨g, 0, none⟩) c l) : Go.Sort.Holds (Value.int .i64) w g 0 l.toArray := by
  rcases h.2 with ⟨hv, _⟩ | ⟨g', cap, cur, hv, hbase, hb, h1, h2, h3, h4⟩
  · cases hv
  injection hv with e1 e2 e3
  injection e1 with e1
  injection e1 with e1
  subst e1
  exact holds_of_blockI hb (by rw [ei_flat] at h4; simpa using h4)
end Go.Proofs.Ytpgbfjeejkeibaa
