/-
  Contracts of the document's own answers for layer 1: Number, Digits. Conditions: at most eight bytes.
-/
import Derived.Test.YtmffmoflelnmoaaAcc
import Derived.Test.YtmffmoflelnmoaaOctAF
namespace Go.Proofs.Ytmffmoflelnmoaa
open Go.RowKit

/-- The last digits of a number, the least first. -/
def lowL (u j : Nat) : List UInt8 := (List.range j).map fun t => UInt8.ofNat (u / 256 ^ t)
theorem lowL_length (u j : Nat) : (lowL u j).length = j := by simp [lowL]
theorem lowL_snoc (u j : Nat) : lowL u j ++ [UInt8.ofNat (u / 256 ^ j)] = lowL u (j + 1) := by simp [lowL, List.range_succ]
theorem lowL_get (u j k : Nat) (h : k < (lowL u j).length) : (lowL u j)[k] = UInt8.ofNat (u / 256 ^ k) := by simp [lowL]
theorem dig_get (n u : Nat) : ∀ (k : Nat) (h : k < (dig n u).length), (dig n u)[k] = UInt8.ofNat (u / 256 ^ (n - 1 - k)) := by
  induction n with
  | zero => intro k h; simp [dig] at h
  | succ m ih =>
    intro k h
    cases k with
    | zero => simp [dig]
    | succ k =>
      have h' : k < (dig m u).length := by simpa [dig] using h
      have := ih k h'
      simp only [dig, List.getElem_cons_succ, this]
      congr 3
      omega

def DigitsPost (w : World) (n u : Nat) (e : Ending) (w' : World) : Prop :=
  ∃ A c, e = .returned (.slice A n c) ∧ Acc w' w.heap.size A c (dig n u) ∧ Below w.heap.size w w'

end Go.Proofs.Ytmffmoflelnmoaa
