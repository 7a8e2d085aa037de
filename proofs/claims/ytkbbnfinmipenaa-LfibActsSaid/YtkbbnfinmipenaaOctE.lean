/-
  Contracts of package octet: Put. Conditions: the bytes that come in read as a list, and what is made has at most 2^47 bytes.
-/
import Derived.Test.YtkbbnfinmipenaaOctD
namespace Go.Proofs.Ytkbbnfinmipenaa
open Go.RowKit

/-- The bytes of a number, of which there are 'n', the first one the most. -/
def dig : Nat → Nat → List UInt8
  | 0, _ => []
  | k + 1, u => UInt8.ofNat (u / 256 ^ k) :: dig k u
theorem dig_length (n u : Nat) : (dig n u).length = n := by
  induction n with
  | zero => rfl
  | succ k ih => simp [dig, ih]

theorem Own.set_ {w : World} {g : Nat} {l : List UInt8} (h : Own w g l) (i : Nat) (x : UInt8) : Own (w.setCell ⟨g, i, none⟩ (.int .u8 (x.toNat : Int))) g (l.set i x) := by
  unfold Own at *
  simp [World.setCell, Array.getElem?_modify, h, List.map_set, bv]

/-- The bytes while the last 'k' of 'n' digits are there. -/
def part (l : List UInt8) (n k u : Nat) : List UInt8 := l ++ (List.replicate (n - k) 0 ++ dig k u)
theorem part_length (l : List UInt8) (n k u : Nat) (h : k ≤ n) : (part l n k u).length = l.length + n := by
  simp [part, dig_length]; omega
theorem part_next (l : List UInt8) (n k u : Nat) (h : k < n) : (part l n k u).set (l.length + n - 1 - k) (UInt8.ofNat (u / 256 ^ k)) = part l n (k + 1) u := by
  unfold part
  rw [List.set_append_right _ _ (by omega)]
  congr 1
  have e : n - k = (n - (k + 1)) + 1 := by omega
  rw [e, List.replicate_succ', List.append_assoc, List.set_append_right _ _ (by simp; omega)]
  have e2 : l.length + n - 1 - k - l.length - (List.replicate (n - (k + 1)) (0 : UInt8)).length = 0 := by simp; omega
  rw [e2]
  simp [dig]
theorem part_zero (l : List UInt8) (n u : Nat) : part l n 0 u = l ++ List.replicate n 0 := by simp [part, dig]
theorem part_all (l : List UInt8) (n u : Nat) : part l n n u = l ++ dig n u := by simp [part]

theorem pow_eight (k : Nat) : (2 : Int) ^ (8 * k) = ((256 ^ k : Nat) : Int) := by
  rw [Int.pow_mul, Int.natCast_pow]; rfl
theorem shr_big (u k : Nat) (h : 256 ^ k ≤ u) : ((u : Int) / 2 ^ (8 * k) != 0) = true := by
  rw [pow_eight, ← Int.natCast_ediv, bne_iff_ne]
  have := Nat.div_pos h (Nat.pow_pos (by omega))
  omega
theorem shr_fit (u k : Nat) (h : u < 256 ^ k) : ((u : Int) / 2 ^ (8 * k) != 0) = false := by
  rw [pow_eight, ← Int.natCast_ediv, Nat.div_eq_of_lt h]; rfl

def PutPost (w : World) (l : List UInt8) (k u : Nat) (e : Ending) (w' : World) : Prop :=
  e = .returned (.tuple #[.slice (some ⟨w.heap.size, 0, none⟩) (l.length + k) (l.length + k), .int .i64 0]) ∧ Own w' w.heap.size (l ++ dig k u) ∧ Below w.heap.size w w'

theorem low_byte (v : Nat) : ((v : Int) % 256) = ((UInt8.ofNat v).toNat : Int) := by
  rw [UInt8.toNat_ofNat']; omega
theorem div_next (u j : Nat) : u / 256 ^ j / 256 = u / 256 ^ (j + 1) := by
  rw [Nat.pow_succ, ← Nat.div_div_eq_div_mul]

end Go.Proofs.Ytkbbnfinmipenaa
