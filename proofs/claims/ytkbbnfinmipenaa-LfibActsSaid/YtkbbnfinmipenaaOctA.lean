/-
  Contracts of the small functions of package octet: extend, isWidth, Pad, New. Conditions: the bytes that come in read as a list, and what is made has at most 2^47 bytes.
-/
import Derived.Test.YtkbbnfinmipenaaMem
namespace Go.Proofs.Ytkbbnfinmipenaa
open Go.RowKit

/-- Whether a number may have 'n' bytes. -/
def wid (n : Int) : Bool := decide (1 ≤ n) && decide (n ≤ 8)
theorem wid_yes {n : Int} (h1 : 1 ≤ n) (h2 : n ≤ 8) : wid n = true := by simp [wid, h1, h2]
theorem wid_no {n : Int} (h : n < 1 ∨ 8 < n) : wid n = false := by
  unfold wid
  rcases h with h | h
  · rw [decide_eq_false (by omega : ¬ 1 ≤ n)]; rfl
  · rw [decide_eq_false (by omega : ¬ n ≤ 8)]; simp

theorem made_zero (n : Nat) : madeCells #[Value.int .u8 0] n = Array.replicate n (bv 0) := by
  apply Array.ext
  · simp [madeCells]
  · intro i h1 h2
    simp [madeCells, bv, Nat.mod_one]

/-- What 'extend' leaves behind: a new block with the bytes, and noughts behind them. -/
def ExtendPost (w : World) (l : List UInt8) (k : Nat) (e : Ending) (w' : World) : Prop :=
  e = .returned (.slice (some ⟨w.heap.size, 0, none⟩) (l.length + k) (l.length + k)) ∧ Own w' w.heap.size (l ++ List.replicate k 0) ∧ Below w.heap.size w w'

theorem Try.infoByte : (Try.prog.info? 5).map (fun i => (i.zero, i.size, i.bytes)) = some (some (.int .u8 0), 1, 1) := by kernel_rfl

end Go.Proofs.Ytkbbnfinmipenaa
