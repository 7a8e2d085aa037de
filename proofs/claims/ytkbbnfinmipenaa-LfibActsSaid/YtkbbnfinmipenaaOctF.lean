/-
  The contracts of Uint, Bytes and Put once more, for any number that is asked for: the reader that New made, any width, any number.
-/
import Derived.Test.YtkbbnfinmipenaaOctE
namespace Go.Proofs.Ytkbbnfinmipenaa
open Go.RowKit

theorem errOf_zero {err n left : Int} {ok : Bool} (h : errOf err ok n left = 0) : err = 0 ∧ ok = true ∧ n ≤ left := by
  unfold errOf at h
  by_cases he : err = 0
  · rw [if_pos he] at h
    cases ok with
    | false => simp at h
    | true =>
      by_cases hn : left < n
      · simp [hn] at h
      · exact ⟨he, rfl, by omega⟩
  · rw [if_neg he] at h; exact absurd h he
theorem wid_true {n : Int} (h : wid n = true) : 1 ≤ n ∧ n ≤ 8 := by simpa [wid] using h

section
variable {w : World} {r g i : Nat} {l : List UInt8} {err : Int}

/-- What a reader answers, and where it is then, whatever is asked. -/
def uErr (l : List UInt8) (i : Nat) (err n : Int) : Int := errOf err (wid n) n ((l.length : Int) - (i : Int))
def uPos (l : List UInt8) (i : Nat) (err n : Int) : Nat := if uErr l i err n = 0 then i + n.toNat else i
def uVal (l : List UInt8) (i : Nat) (err n : Int) : Nat := if uErr l i err n = 0 then num ((l.drop i).take n.toNat) else 0
def bErr (l : List UInt8) (i : Nat) (err n : Int) : Int := errOf err (decide (0 ≤ n)) n ((l.length : Int) - (i : Int))
def bPos (l : List UInt8) (i : Nat) (err n : Int) : Nat := if bErr l i err n = 0 then i + n.toNat else i
def bVal (l : List UInt8) (i : Nat) (err n : Int) : List UInt8 := if bErr l i err n = 0 then (l.drop i).take n.toNat else []

end
end Go.Proofs.Ytkbbnfinmipenaa
