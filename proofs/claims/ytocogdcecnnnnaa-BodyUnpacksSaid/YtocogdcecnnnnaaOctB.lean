/-
  Contracts of package octet: Pad, New, and the reader's methods Err, Left, ready, next. Conditions: a reader is one that New made (or nil, or of zero value), its bytes lie in a block of their own.
-/
import Derived.Test.YtocogdcecnnnnaaOctA
namespace Go.Proofs.Ytocogdcecnnnnaa
open Go.RowKit

theorem extend_int (a : Option Addr) (n c : Nat) (l : List UInt8) (k : Int) (w : World) (h : Bts w w.heap.size a n l) (hk : 0 ≤ k) (hlen : (n : Int) + k ≤ 140737488355328) :
    Calls Try.prog 44 #[.slice a n c, .int .i64 k] w (ExtendPost w l k.toNat) := by
  have := extend_calls a n c l k.toNat w h (by omega)
  rwa [Int.toNat_of_nonneg hk] at this

/-- How many noughts make a length a multiple of four. -/
def gap (n : Nat) : Nat := (4 - n % 4) % 4
/-- Padded bytes. -/
def padL (l : List UInt8) : List UInt8 := l ++ List.replicate (gap l.length) 0
theorem gap_lt (n : Nat) : gap n < 4 := by unfold gap; omega
theorem padL_length (l : List UInt8) : (padL l).length = l.length + gap l.length := by simp [padL]

def PadPost (w : World) (l : List UInt8) (e : Ending) (w' : World) : Prop :=
  e = .returned (.slice (some ⟨w.heap.size, 0, none⟩) (padL l).length (padL l).length) ∧ Own w' w.heap.size (padL l) ∧ Below w.heap.size w w'

/-- A reader that New made lies in block 'r', its bytes in block 'g': at the place 'at', with the error 'err'. -/
def Rdr (w : World) (r g : Nat) (l : List UInt8) (i : Nat) (err : Int) : Prop :=
  w.heap[r]? = some (.cells #[.bool true, .slice (some ⟨g, 0, none⟩) l.length l.length, .int .i64 (i : Int), .int .i64 err] 92 (0, 0)) ∧ Own w g l ∧ i ≤ l.length ∧ l.length ≤ 140737488355328

def NewPost (w : World) (l : List UInt8) (e : Ending) (w' : World) : Prop :=
  ∃ r g, e = .returned (.pointer (some ⟨r, 0, none⟩)) ∧ w.heap.size ≤ r ∧ w.heap.size ≤ g ∧ Rdr w' r g l 0 0 ∧ Below w.heap.size w w'

theorem new_calls (a : Option Addr) (n c : Nat) (l : List UInt8) (w : World) (h : Bts w w.heap.size a n l) (hlen : n ≤ 140737488355328) :
    Calls Try.prog 25 #[.slice a n c] w (NewPost w l) := by
  have hn := Lib.hid h.1
  go_enter Try.func25, Try.ntmps25
  go_wp2_with fail
  refine (extend_zero a n c l w h (by omega)).mono ?_
  rintro e w' ⟨rfl, h2, h3⟩
  have H2 := Lib.hid h2
  clear h2
  go_wp2
  go_ret
  refine ⟨w'.heap.size, w.heap.size, rfl, h3.size, Nat.le_refl _, ⟨?_, H2.out.same (Below.heap_alloc _ _ _ H2.out.lt), Nat.zero_le _, ?_⟩, h3.alloc h3.size _⟩
  · rw [heap_alloc_new, hn.out]; rfl
  · rw [hn.out]; exact hlen

section
variable {w : World} {r g i : Nat} {l : List UInt8} {err : Int}
theorem Rdr.lt (h : Rdr w r g l i err) : r < w.heap.size := by
  rcases Nat.lt_or_ge r w.heap.size with hlt | hge
  · exact hlt
  · have := h.1; rw [Array.getElem?_eq_none hge] at this; cases this
theorem Rdr.c0 (h : Rdr w r g l i err) : w.cell? ⟨r, 0, none⟩ = some (.bool true) := (cell_of_row w r 0 _ _ _ h.1).trans rfl
theorem Rdr.c1 (h : Rdr w r g l i err) : w.cell? ⟨r, 1, none⟩ = some (.slice (some ⟨g, 0, none⟩) l.length l.length) := (cell_of_row w r 1 _ _ _ h.1).trans rfl
theorem Rdr.c2 (h : Rdr w r g l i err) : w.cell? ⟨r, 2, none⟩ = some (.int .i64 (i : Int)) := (cell_of_row w r 2 _ _ _ h.1).trans rfl
theorem Rdr.c3 (h : Rdr w r g l i err) : w.cell? ⟨r, 3, none⟩ = some (.int .i64 err) := (cell_of_row w r 3 _ _ _ h.1).trans rfl
theorem Rdr.free (h : Rdr w r g l i err) (k : Nat) : w.frozen? ⟨r, k, none⟩ = false := by simp [World.frozen?, h.1]
theorem Rdr.ne (h : Rdr w r g l i err) : r ≠ g := by
  rintro rfl
  have h1 := h.1
  have h2 := h.2.1
  unfold Own at h2
  rw [h1] at h2
  injection h2 with h2
  injection h2 with _ ht
  exact absurd ht (by decide)
theorem Rdr.same {w' : World} (h : Rdr w r g l i err) (h1 : w'.heap[r]? = w.heap[r]?) (h2 : w'.heap[g]? = w.heap[g]?) : Rdr w' r g l i err :=
  ⟨h1.trans h.1, h.2.1.same h2, h.2.2.1, h.2.2.2⟩
theorem Rdr.below {w' : World} {B : Nat} (h : Rdr w r g l i err) (hb : Below B w w') (h1 : r < B) (h2 : g < B) : Rdr w' r g l i err := h.same (hb.block _ h1) (hb.block _ h2)
theorem Rdr.bel {w' : World} (h : Rdr w r g l i err) (hb : Below w.heap.size w w') : Rdr w' r g l i err := h.below hb h.lt h.2.1.lt

theorem err_calls (h : Rdr w r g l i err) :
    Calls Try.prog 26 #[.pointer (some ⟨r, 0, none⟩)] w fun e w' => e = .returned (.int .i64 err) ∧ w = w' := by
  have c0 := h.c0
  have c3 := h.c3
  clear h
  go_enter Try.func26, Try.ntmps26
  go_wp2
  go_ret
  exact ⟨rfl, rfl⟩

theorem left_calls (h : Rdr w r g l i err) :
    Calls Try.prog 27 #[.pointer (some ⟨r, 0, none⟩)] w fun e w' => e = .returned (.int .i64 ((l.length : Int) - (i : Int))) ∧ ∃ m, w' = w.drewN m := by
  have c1 := h.c1
  have c2 := h.c2
  have hi := h.2.2.1
  have hl := h.2.2.2
  clear h
  go_enter Try.func27, Try.ntmps27
  go_wp2
  go_quiet (fail)
  go_wp2
  go_ret
  exact ⟨rfl, _, rfl⟩
end
end Go.Proofs.Ytocogdcecnnnnaa
