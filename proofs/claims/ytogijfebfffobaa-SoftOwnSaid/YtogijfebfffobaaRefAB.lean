/-
  Contracts of the document's own answers for layer 1: Number, Digits. Conditions: at most eight bytes.
  Contracts of the document's own answers for layer 1: Put, Pad. Conditions: the bytes that come in read as a list of at most 2^40 bytes.
-/
import Derived.Test.YtogijfebfffobaaBase
import Derived.Test.YtogijfebfffobaaOctAF
namespace Go.Proofs.Ytogijfebfffobaa
open Go.RowKit

/-- The last digits of a number, the least first. -/
def lowL (u j : Nat) : List UInt8 := (List.range j).map fun t => UInt8.ofNat (u / 256 ^ t)
theorem lowL_length (u j : Nat) : (lowL u j).length = j := by simp [lowL]
theorem lowL_snoc (u j : Nat) : lowL u j ++ [UInt8.ofNat (u / 256 ^ j)] = lowL u (j + 1) := by simp [lowL, List.range_succ]
theorem lowL_get (u j k : Nat) (h : k < (lowL u j).length) : (lowL u j)[k] = UInt8.ofNat (u / 256 ^ k) := by simp [lowL]
theorem dig_get (n u : Nat) : ∀ (k : Nat) (h : k < (dig n u).length), (dig n u)[k] = UInt8.ofNat (u / 256 ^ (n - 1 - k)) := by
  induction n with
  | zero => intro k h; simp [dig] at h
  | succ m ih =>
    intro k h
    cases k with
    | zero => simp [dig]
    | succ k =>
      have h' : k < (dig m u).length := by simpa [dig] using h
      have := ih k h'
      simp only [dig, List.getElem_cons_succ, this]
      congr 3
      omega

def DigitsPost (w : World) (n u : Nat) (e : Ending) (w' : World) : Prop :=
  ∃ A c, e = .returned (.slice A n c) ∧ Acc w' w.heap.size A c (dig n u) ∧ Below w.heap.size w w'

end Go.Proofs.Ytogijfebfffobaa

namespace Go.Proofs.Ytogijfebfffobaa
open Go.RowKit

/-- The length of a slice value: for a loop's measure. -/
def lenOf : Value → Nat | .slice _ n _ => n | _ => 0

theorem num_dig_from (n u : Nat) : ∀ s, (dig n u).foldl (fun v x => v * 256 + x.toNat) s = s * 256 ^ n + u % 256 ^ n := by
  induction n with
  | zero => intro s; simp [dig, Nat.mod_one]
  | succ k ih =>
    intro s
    simp only [dig, List.foldl_cons, ih, UInt8.toNat_ofNat']
    have h1 : u % 256 ^ (k + 1) = (u / 256 ^ k % 256) * 256 ^ k + u % 256 ^ k := by
      rw [Nat.pow_succ, Nat.mod_mul, Nat.mul_comm, Nat.add_comm]
    rw [h1, Nat.pow_succ, Nat.add_mul, Nat.mul_assoc, Nat.mul_comm 256, Nat.add_assoc]
    rfl
theorem num_dig (n u : Nat) : num (dig n u) = u % 256 ^ n := by
  have := num_dig_from n u 0
  simpa [num] using this

def RefPutPost (w : World) (l : List UInt8) (k u : Nat) (e : Ending) (w' : World) : Prop :=
  ∃ A c, e = .returned (.tuple #[.slice A (l.length + k) c, .int .i64 0]) ∧ Acc w' w.heap.size A c (l ++ dig k u) ∧ Below w.heap.size w w'

def RefPadPost (w : World) (l : List UInt8) (e : Ending) (w' : World) : Prop :=
  ∃ A c, e = .returned (.slice A (padL l).length c) ∧ Acc w' w.heap.size A c (padL l) ∧ Below w.heap.size w w'

end Go.Proofs.Ytogijfebfffobaa
