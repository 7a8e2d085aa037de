/-
  Contracts of the small functions of package octet: extend, isWidth, Pad, New. Conditions: the bytes that come in read as a list, and what is made has at most 2^47 bytes.
  Contracts of package octet: Pad, New, and the reader's methods Err, Left, ready, next. Conditions: a reader is one that New made (or nil, or of zero value), its bytes lie in a block of their own.
  Contracts of package octet: the reader's methods ready, next, Bytes. Conditions: the reader is one that New made.
  Contracts of package octet: the reader's method Uint. Conditions: the reader is one that New made.
  Contracts of package octet: Put. Conditions: the bytes that come in read as a list, and what is made has at most 2^47 bytes.
  The contracts of Uint, Bytes and Put once more, for any number that is asked for: the reader that New made, any width, any number.
-/
import Derived.Test.YtogijfebfffobaaBase
namespace Go.Proofs.Ytogijfebfffobaa
open Go.RowKit

/-- Whether a number may have 'n' bytes. -/
def wid (n : Int) : Bool := decide (1 ≤ n) && decide (n ≤ 8)
theorem wid_yes {n : Int} (h1 : 1 ≤ n) (h2 : n ≤ 8) : wid n = true := by simp [wid, h1, h2]
theorem wid_no {n : Int} (h : n < 1 ∨ 8 < n) : wid n = false := by
  unfold wid
  rcases h with h | h
  · rw [decide_eq_false (by omega : ¬ 1 ≤ n)]; rfl
  · rw [decide_eq_false (by omega : ¬ n ≤ 8)]; simp

theorem made_zero (n : Nat) : madeCells #[Value.int .u8 0] n = Array.replicate n (bv 0) := by
  apply Array.ext
  · simp [madeCells]
  · intro i h1 h2
    simp [madeCells, bv, Nat.mod_one]

/-- What 'extend' leaves behind: a new block with the bytes, and noughts behind them. -/
def ExtendPost (w : World) (l : List UInt8) (k : Nat) (e : Ending) (w' : World) : Prop :=
  e = .returned (.slice (some ⟨w.heap.size, 0, none⟩) (l.length + k) (l.length + k)) ∧ Own w' w.heap.size (l ++ List.replicate k 0) ∧ Below w.heap.size w w'

theorem Try.infoByte : (Try.prog.info? 5).map (fun i => (i.zero, i.size, i.bytes)) = some (some (.int .u8 0), 1, 1) := by kernel_rfl

end Go.Proofs.Ytogijfebfffobaa

namespace Go.Proofs.Ytogijfebfffobaa
open Go.RowKit

/-- How many noughts make a length a multiple of four. -/
def gap (n : Nat) : Nat := (4 - n % 4) % 4
/-- Padded bytes. -/
def padL (l : List UInt8) : List UInt8 := l ++ List.replicate (gap l.length) 0
theorem gap_lt (n : Nat) : gap n < 4 := by unfold gap; omega
theorem padL_length (l : List UInt8) : (padL l).length = l.length + gap l.length := by simp [padL]

def PadPost (w : World) (l : List UInt8) (e : Ending) (w' : World) : Prop :=
  e = .returned (.slice (some ⟨w.heap.size, 0, none⟩) (padL l).length (padL l).length) ∧ Own w' w.heap.size (padL l) ∧ Below w.heap.size w w'

section
variable {w : World} {r g i : Nat} {l : List UInt8} {err : Int}
end
end Go.Proofs.Ytogijfebfffobaa

namespace Go.Proofs.Ytogijfebfffobaa
open Go.RowKit

/-- The error that a reader has behind a question for 'n' bytes. -/
def errOf (err : Int) (ok : Bool) (n left : Int) : Int := if err = 0 then (if ok then (if left < n then 4 else 0) else 2) else err

section
variable {w : World} {r g i : Nat} {l : List UInt8} {err : Int}

theorem upd_set (w : World) (r k : Nat) (u : Value) : w.grownBy (w.setCell ⟨r, k, none⟩ u) (some r) :=
  ⟨rfl, rfl, rfl, by simp [World.setCell], fun j _ hj => Below.heap_setCell _ _ _ _ (fun e => hj (by rw [e]))⟩
theorem upd_drewN {a w : World} {row : Option Nat} (h : a.grownBy w row) (n : Nat) : a.grownBy (w.drewN n) row := ⟨h.os, h.tape, h.output, h.size, h.block⟩
theorem upd_below {a w : World} (h : Below a.heap.size a w) (row : Option Nat) : a.grownBy w row := ⟨h.os, h.tape, h.output, h.size, fun i hi _ => h.block i hi⟩

theorem upd_trans {a b c : World} {row : Option Nat} (h : a.grownBy b row) (k : b.grownBy c row) : a.grownBy c row :=
  ⟨k.os.trans h.os, k.tape.trans h.tape, k.output.trans h.output, Nat.le_trans h.size k.size, fun i hi hne => (k.block i (Nat.lt_of_lt_of_le hi h.size) hne).trans (h.block i hi hne)⟩

end
end Go.Proofs.Ytogijfebfffobaa

namespace Go.Proofs.Ytogijfebfffobaa
open Go.RowKit

/-- The number that bytes tell, the first one the most. -/
def num (l : List UInt8) : Nat := l.foldl (fun u x => u * 256 + x.toNat) 0
theorem num_nil : num [] = 0 := rfl
theorem num_snoc (l : List UInt8) (x : UInt8) : num (l ++ [x]) = num l * 256 + x.toNat := by simp [num]
theorem num_lt_from (l : List UInt8) : ∀ u : Nat, l.foldl (fun u x => u * 256 + x.toNat) u < (u + 1) * 256 ^ l.length := by
  induction l with
  | nil => intro u; simp
  | cons x l ih =>
    intro u
    have h := ih (u * 256 + x.toNat)
    have hx : x.toNat < 256 := x.toNat_lt
    have h2 : (u * 256 + x.toNat + 1) * 256 ^ l.length ≤ ((u + 1) * 256) * 256 ^ l.length := Nat.mul_le_mul_right _ (by omega)
    rw [List.foldl_cons, List.length_cons, Nat.pow_succ, Nat.mul_comm (256 ^ l.length), ← Nat.mul_assoc]
    omega
theorem num_lt (l : List UInt8) : num l < 256 ^ l.length := by simpa [num] using num_lt_from l 0
theorem take_snoc (l : List UInt8) (k : Nat) (h : k < l.length) : l.take (k + 1) = l.take k ++ [l[k]] := List.take_succ_eq_append_getElem h

/-- A number moved up by a byte, and the byte. -/
theorem or_byte (a x : Nat) (ha : a < 72057594037927936) (hx : x < 256) : bits .or .u64 (IntKind.u64.wrap ((a : Int) * 256)) (IntKind.u64.wrap (x : Int)) = ((a * 256 + x : Nat) : Int) := by
  have e1 : IntKind.u64.wrap ((a : Int) * 256) = ((a * 256 : Nat) : Int) := by rw [IntKind.wrap_u64]; omega
  have e2 : IntKind.u64.wrap (x : Int) = (x : Int) := by rw [IntKind.wrap_u64]; omega
  rw [e1, e2, u64_or_nat _ _ (by omega) (by omega)]
  have h := Nat.two_pow_add_eq_or_of_lt (i := 8) (b := x) (by omega) a
  rw [Nat.mul_comm a 256]
  exact congrArg _ h.symm

section
variable {w : World} {r g i : Nat} {l : List UInt8} {err : Int}

end
end Go.Proofs.Ytogijfebfffobaa

namespace Go.Proofs.Ytogijfebfffobaa
open Go.RowKit

/-- The bytes of a number, of which there are 'n', the first one the most. -/
def dig : Nat → Nat → List UInt8
  | 0, _ => []
  | k + 1, u => UInt8.ofNat (u / 256 ^ k) :: dig k u
theorem dig_length (n u : Nat) : (dig n u).length = n := by
  induction n with
  | zero => rfl
  | succ k ih => simp [dig, ih]

theorem Own.set_ {w : World} {g : Nat} {l : List UInt8} (h : Own w g l) (i : Nat) (x : UInt8) : Own (w.setCell ⟨g, i, none⟩ (.int .u8 (x.toNat : Int))) g (l.set i x) := by
  unfold Own at *
  simp [World.setCell, Array.getElem?_modify, h, List.map_set, bv]

/-- The bytes while the last 'k' of 'n' digits are there. -/
def part (l : List UInt8) (n k u : Nat) : List UInt8 := l ++ (List.replicate (n - k) 0 ++ dig k u)
theorem part_length (l : List UInt8) (n k u : Nat) (h : k ≤ n) : (part l n k u).length = l.length + n := by
  simp [part, dig_length]; omega
theorem part_next (l : List UInt8) (n k u : Nat) (h : k < n) : (part l n k u).set (l.length + n - 1 - k) (UInt8.ofNat (u / 256 ^ k)) = part l n (k + 1) u := by
  unfold part
  rw [List.set_append_right _ _ (by omega)]
  congr 1
  have e : n - k = (n - (k + 1)) + 1 := by omega
  rw [e, List.replicate_succ', List.append_assoc, List.set_append_right _ _ (by simp; omega)]
  have e2 : l.length + n - 1 - k - l.length - (List.replicate (n - (k + 1)) (0 : UInt8)).length = 0 := by simp; omega
  rw [e2]
  simp [dig]
theorem part_zero (l : List UInt8) (n u : Nat) : part l n 0 u = l ++ List.replicate n 0 := by simp [part, dig]
theorem part_all (l : List UInt8) (n u : Nat) : part l n n u = l ++ dig n u := by simp [part]

theorem pow_eight (k : Nat) : (2 : Int) ^ (8 * k) = ((256 ^ k : Nat) : Int) := by
  rw [Int.pow_mul, Int.natCast_pow]; rfl
theorem shr_big (u k : Nat) (h : 256 ^ k ≤ u) : ((u : Int) / 2 ^ (8 * k) != 0) = true := by
  rw [pow_eight, ← Int.natCast_ediv, bne_iff_ne]
  have := Nat.div_pos h (Nat.pow_pos (by omega))
  omega
theorem shr_fit (u k : Nat) (h : u < 256 ^ k) : ((u : Int) / 2 ^ (8 * k) != 0) = false := by
  rw [pow_eight, ← Int.natCast_ediv, Nat.div_eq_of_lt h]; rfl

def PutPost (w : World) (l : List UInt8) (k u : Nat) (e : Ending) (w' : World) : Prop :=
  e = .returned (.tuple #[.slice (some ⟨w.heap.size, 0, none⟩) (l.length + k) (l.length + k), .int .i64 0]) ∧ Own w' w.heap.size (l ++ dig k u) ∧ Below w.heap.size w w'

theorem low_byte (v : Nat) : ((v : Int) % 256) = ((UInt8.ofNat v).toNat : Int) := by
  rw [UInt8.toNat_ofNat']; omega
theorem div_next (u j : Nat) : u / 256 ^ j / 256 = u / 256 ^ (j + 1) := by
  rw [Nat.pow_succ, ← Nat.div_div_eq_div_mul]

end Go.Proofs.Ytogijfebfffobaa

namespace Go.Proofs.Ytogijfebfffobaa
open Go.RowKit

theorem errOf_zero {err n left : Int} {ok : Bool} (h : errOf err ok n left = 0) : err = 0 ∧ ok = true ∧ n ≤ left := by
  unfold errOf at h
  by_cases he : err = 0
  · rw [if_pos he] at h
    cases ok with
    | false => simp at h
    | true =>
      by_cases hn : left < n
      · simp [hn] at h
      · exact ⟨he, rfl, by omega⟩
  · rw [if_neg he] at h; exact absurd h he
theorem wid_true {n : Int} (h : wid n = true) : 1 ≤ n ∧ n ≤ 8 := by simpa [wid] using h

section
variable {w : World} {r g i : Nat} {l : List UInt8} {err : Int}

/-- What a reader answers, and where it is then, whatever is asked. -/
def uErr (l : List UInt8) (i : Nat) (err n : Int) : Int := errOf err (wid n) n ((l.length : Int) - (i : Int))
def uPos (l : List UInt8) (i : Nat) (err n : Int) : Nat := if uErr l i err n = 0 then i + n.toNat else i
def uVal (l : List UInt8) (i : Nat) (err n : Int) : Nat := if uErr l i err n = 0 then num ((l.drop i).take n.toNat) else 0
def bErr (l : List UInt8) (i : Nat) (err n : Int) : Int := errOf err (decide (0 ≤ n)) n ((l.length : Int) - (i : Int))
def bPos (l : List UInt8) (i : Nat) (err n : Int) : Nat := if bErr l i err n = 0 then i + n.toNat else i
def bVal (l : List UInt8) (i : Nat) (err n : Int) : List UInt8 := if bErr l i err n = 0 then (l.drop i).take n.toNat else []

end
end Go.Proofs.Ytogijfebfffobaa
