/-
  The contracts of Uint, Bytes and Put once more, for any number that is asked for: the reader that New made, any width, any number.
-/
import Derived.Test.YtocogdcecnnnnaaOctE
namespace Go.Proofs.Ytocogdcecnnnnaa
open Go.RowKit

theorem errOf_zero {err n left : Int} {ok : Bool} (h : errOf err ok n left = 0) : err = 0 ∧ ok = true ∧ n ≤ left := by
  unfold errOf at h
  by_cases he : err = 0
  · rw [if_pos he] at h
    cases ok with
    | false => simp at h
    | true =>
      by_cases hn : left < n
      · simp [hn] at h
      · exact ⟨he, rfl, by omega⟩
  · rw [if_neg he] at h; exact absurd h he
theorem wid_true {n : Int} (h : wid n = true) : 1 ≤ n ∧ n ≤ 8 := by simpa [wid] using h

section
variable {w : World} {r g i : Nat} {l : List UInt8} {err : Int}

theorem uint_i (h : Rdr w r g l i 0) (n : Int) (h1 : 1 ≤ n) (h8 : n ≤ 8) (hn : (i : Int) + n ≤ (l.length : Int)) :
    Calls Try.prog 72 #[.pointer (some ⟨r, 0, none⟩), .int .i64 n] w (UintPost w r g l i n.toNat) := by
  have := uint_ok h n.toNat (by omega) (by omega) (by omega)
  rwa [Int.toNat_of_nonneg (by omega)] at this
theorem put_i (a : Option Addr) (n : Nat) (c : Nat) (l : List UInt8) (k u : Int) (w : World) (h : Bts w w.heap.size a n l) (hlen : n + 8 ≤ 140737488355328) (h1 : 1 ≤ k) (h8 : k ≤ 8) (hu : 0 ≤ u) (hb : u.toNat < 256 ^ k.toNat) :
    Calls Try.prog 68 #[.slice a n c, .int .i64 k, .int .u64 u] w (PutPost w l k.toNat u.toNat) := by
  have := put_ok a n c l k.toNat u.toNat w h hlen (by omega) (by omega) hb
  rwa [Int.toNat_of_nonneg (by omega), Int.toNat_of_nonneg hu] at this

/-- What a reader answers, and where it is then, whatever is asked. -/
def uErr (l : List UInt8) (i : Nat) (err n : Int) : Int := errOf err (wid n) n ((l.length : Int) - (i : Int))
def uPos (l : List UInt8) (i : Nat) (err n : Int) : Nat := if uErr l i err n = 0 then i + n.toNat else i
def uVal (l : List UInt8) (i : Nat) (err n : Int) : Nat := if uErr l i err n = 0 then num ((l.drop i).take n.toNat) else 0
def bErr (l : List UInt8) (i : Nat) (err n : Int) : Int := errOf err (decide (0 ≤ n)) n ((l.length : Int) - (i : Int))
def bPos (l : List UInt8) (i : Nat) (err n : Int) : Nat := if bErr l i err n = 0 then i + n.toNat else i
def bVal (l : List UInt8) (i : Nat) (err n : Int) : List UInt8 := if bErr l i err n = 0 then (l.drop i).take n.toNat else []

def UintAny (w : World) (r g : Nat) (l : List UInt8) (i : Nat) (err n : Int) (e : Ending) (w' : World) : Prop :=
  e = .returned (.int .u64 ((uVal l i err n : Nat) : Int)) ∧ Rdr w' r g l (uPos l i err n) (uErr l i err n) ∧ w.grownBy w' (some r)
def BytesAny (w : World) (r g : Nat) (l : List UInt8) (i : Nat) (err n : Int) (e : Ending) (w' : World) : Prop :=
  ∃ a c, e = .returned (.slice a (bVal l i err n).length c) ∧ Bts w' w'.heap.size a (bVal l i err n).length (bVal l i err n) ∧ Rdr w' r g l (bPos l i err n) (bErr l i err n) ∧ w.grownBy w' (some r)

theorem uint_any (h : Rdr w r g l i err) (n : Int) :
    Calls Try.prog 72 #[.pointer (some ⟨r, 0, none⟩), .int .i64 n] w (UintAny w r g l i err n) := by
  by_cases hz : uErr l i err n = 0
  · obtain ⟨rfl, hw, hn⟩ := errOf_zero hz
    have hw' := wid_true hw
    refine (uint_i h n hw'.1 hw'.2 (by omega)).mono ?_
    rintro e w' ⟨h1, h2, h3⟩
    exact ⟨by rw [h1]; unfold uVal; rw [if_pos hz], by unfold uPos; rw [if_pos hz, hz]; exact h2, h3⟩
  · refine (uint_no h n hz).mono ?_
    rintro e w' ⟨h1, h2, h3⟩
    exact ⟨by rw [h1]; unfold uVal; rw [if_neg hz]; rfl, by unfold uPos; rw [if_neg hz]; exact h2, h3⟩

end
end Go.Proofs.Ytocogdcecnnnnaa
