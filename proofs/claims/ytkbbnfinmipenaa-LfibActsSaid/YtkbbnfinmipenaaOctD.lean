/-
  Contracts of package octet: the reader's method Uint. Conditions: the reader is one that New made.
-/
import Derived.Test.YtkbbnfinmipenaaOctC
namespace Go.Proofs.Ytkbbnfinmipenaa
open Go.RowKit

/-- The number that bytes tell, the first one the most. -/
def num (l : List UInt8) : Nat := l.foldl (fun u x => u * 256 + x.toNat) 0
theorem num_nil : num [] = 0 := rfl
theorem num_snoc (l : List UInt8) (x : UInt8) : num (l ++ [x]) = num l * 256 + x.toNat := by simp [num]
theorem num_lt_from (l : List UInt8) : ∀ u : Nat, l.foldl (fun u x => u * 256 + x.toNat) u < (u + 1) * 256 ^ l.length := by
  induction l with
  | nil => intro u; simp
  | cons x l ih =>
    intro u
    have h := ih (u * 256 + x.toNat)
    have hx : x.toNat < 256 := x.toNat_lt
    have h2 : (u * 256 + x.toNat + 1) * 256 ^ l.length ≤ ((u + 1) * 256) * 256 ^ l.length := Nat.mul_le_mul_right _ (by omega)
    rw [List.foldl_cons, List.length_cons, Nat.pow_succ, Nat.mul_comm (256 ^ l.length), ← Nat.mul_assoc]
    omega
theorem num_lt (l : List UInt8) : num l < 256 ^ l.length := by simpa [num] using num_lt_from l 0
theorem take_snoc (l : List UInt8) (k : Nat) (h : k < l.length) : l.take (k + 1) = l.take k ++ [l[k]] := List.take_succ_eq_append_getElem h

/-- A number moved up by a byte, and the byte. -/
theorem or_byte (a x : Nat) (ha : a < 72057594037927936) (hx : x < 256) : bits .or .u64 (IntKind.u64.wrap ((a : Int) * 256)) (IntKind.u64.wrap (x : Int)) = ((a * 256 + x : Nat) : Int) := by
  have e1 : IntKind.u64.wrap ((a : Int) * 256) = ((a * 256 : Nat) : Int) := by rw [IntKind.wrap_u64]; omega
  have e2 : IntKind.u64.wrap (x : Int) = (x : Int) := by rw [IntKind.wrap_u64]; omega
  rw [e1, e2, u64_or_nat _ _ (by omega) (by omega)]
  have h := Nat.two_pow_add_eq_or_of_lt (i := 8) (b := x) (by omega) a
  rw [Nat.mul_comm a 256]
  exact congrArg _ h.symm

section
variable {w : World} {r g i : Nat} {l : List UInt8} {err : Int}

end
end Go.Proofs.Ytkbbnfinmipenaa
