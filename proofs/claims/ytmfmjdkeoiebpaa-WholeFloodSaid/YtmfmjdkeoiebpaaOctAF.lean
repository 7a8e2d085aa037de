/-
  Contracts of the small functions of package octet: extend, isWidth, Pad, New. Conditions: the bytes that come in read as a list, and what is made has at most 2^47 bytes.
  Contracts of package octet: Pad, New, and the reader's methods Err, Left, ready, next. Conditions: a reader is one that New made (or nil, or of zero value), its bytes lie in a block of their own.
  Contracts of package octet: the reader's methods ready, next, Bytes. Conditions: the reader is one that New made.
  Contracts of package octet: the reader's method Uint. Conditions: the reader is one that New made.
  Contracts of package octet: Put. Conditions: the bytes that come in read as a list, and what is made has at most 2^47 bytes.
  The contracts of Uint, Bytes and Put once more, for any number that is asked for: the reader that New made, any width, any number.
-/
import Derived.Test.YtmfmjdkeoiebpaaMem
namespace Go.Proofs.Ytmfmjdkeoiebpaa
open Go.RowKit

/-- Whether a number may have 'n' bytes. -/
def wid (n : Int) : Bool := decide (1 ≤ n) && decide (n ≤ 8)
theorem wid_yes {n : Int} (h1 : 1 ≤ n) (h2 : n ≤ 8) : wid n = true := by simp [wid, h1, h2]
theorem wid_no {n : Int} (h : n < 1 ∨ 8 < n) : wid n = false := by
  unfold wid
  rcases h with h | h
  · rw [decide_eq_false (by omega : ¬ 1 ≤ n)]; rfl
  · rw [decide_eq_false (by omega : ¬ n ≤ 8)]; simp

theorem isWidth_calls (n : Int) (w : World) :
    Calls Try.prog 61 #[.int .i64 n] w fun e w' => e = .returned (.bool (wid n)) ∧ w = w' := by
  by_cases h1 : 1 ≤ n
  · by_cases h2 : n ≤ 8
    · have hw := wid_yes h1 h2
      go_enter Try.func61, Try.ntmps61
      go_wp2
      go_ret
      exact ⟨by first | rfl | (rw [hw]; rfl), rfl⟩
    · have hw := wid_no (n := n) (.inr (by omega))
      go_enter Try.func61, Try.ntmps61
      go_wp2
      go_ret
      exact ⟨by first | rfl | (rw [hw]; rfl), rfl⟩
  · have hw := wid_no (n := n) (.inl (by omega))
    go_enter Try.func61, Try.ntmps61
    go_wp2
    go_ret
    exact ⟨by first | rfl | (rw [hw]; rfl), rfl⟩

theorem made_zero (n : Nat) : madeCells #[Value.int .u8 0] n = Array.replicate n (bv 0) := by
  apply Array.ext
  · simp [madeCells]
  · intro i h1 h2
    simp [madeCells, bv, Nat.mod_one]

/-- What 'extend' leaves behind: a new block with the bytes, and noughts behind them. -/
def ExtendPost (w : World) (l : List UInt8) (k : Nat) (e : Ending) (w' : World) : Prop :=
  e = .returned (.slice (some ⟨w.heap.size, 0, none⟩) (l.length + k) (l.length + k)) ∧ Own w' w.heap.size (l ++ List.replicate k 0) ∧ Below w.heap.size w w'

theorem Try.infoByte : (Try.prog.info? 5).map (fun i => (i.zero, i.size, i.bytes)) = some (some (.int .u8 0), 1, 1) := by kernel_rfl

theorem make_bytes (n : Nat) (hn : n ≤ 140737488355328) (W : World) : (Instr.makeSlice 52 (.int .i64 (n : Int)) (.int .i64 (n : Int))).run Try.prog W =
      .ok (.slice (some ⟨W.heap.size, 0, none⟩) n n) (W.alloc (.cells (Array.replicate n (bv 0)) 5)) := by
  have h := run_make_row' (P := Try.prog) 52 5 (.int .u8 0) 1 Try.underlying52 Try.infoByte rfl .i64 .i64 n (by omega) (by omega) W
  rw [h, made_zero]

theorem extend_calls (a : Option Addr) (n c : Nat) (l : List UInt8) (k : Nat) (w : World) (h : Bts w w.heap.size a n l) (hlen : n + k ≤ 140737488355328) :
    Calls Try.prog 56 #[.slice a n c, .int .i64 (k : Int)] w (ExtendPost w l k) := by
  have hn := h.1
  subst hn
  have hmk : ∀ W : World, (Instr.makeSlice 52 (.int .i64 ((l.length : Int) + (k : Int))) (.int .i64 ((l.length : Int) + (k : Int)))).run Try.prog W =
      .ok (.slice (some ⟨W.heap.size, 0, none⟩) (l.length + k) (l.length + k)) (W.alloc (.cells (Array.replicate (l.length + k) (bv 0)) 5)) := by
    intro W
    have := make_bytes (l.length + k) hlen W
    rwa [Int.natCast_add] at this
  obtain ⟨W2, hcp, h2, _, hb2⟩ := copy_front (P := Try.prog) (W := w.alloc (.cells (Array.replicate (l.length + k) (bv 0)) 5)) (c := c) (h.keep fun b hb => Below.heap_alloc _ _ _ hb) 52 52 3 5 Try.underlying52 (by kernel_rfl)
    w.heap.size (l.length + k) (l.length + k) (List.replicate (l.length + k) (bv 0)) 5 (by rw [heap_alloc_new]; simp) (by omega) (by simp)
  have hb : Below w.heap.size w W2 := ((Below.refl _ _).alloc (Nat.le_refl _) _).trans hb2
  have h2' : Own W2 w.heap.size (l ++ List.replicate k 0) := by
    unfold Own; rw [h2]; simp [bv]
  have H2 := Lib.hid h2'
  have HB := Lib.hid hb
  clear h2 h2' hb2 hb
  go_enter Try.func56, Try.ntmps56
  go_wp2
  go_ret
  exact ⟨rfl, H2.out, HB.out⟩

theorem extend_zero (a : Option Addr) (n c : Nat) (l : List UInt8) (w : World) (h : Bts w w.heap.size a n l) (hlen : n ≤ 140737488355328) :
    Calls Try.prog 56 #[.slice a n c, .int .i64 0] w fun e w' => e = .returned (.slice (some ⟨w.heap.size, 0, none⟩) n n) ∧ Own w' w.heap.size l ∧ Below w.heap.size w w' := by
  have := extend_calls a n c l 0 w h hlen
  refine this.mono ?_
  rintro e w' ⟨h1, h2, h3⟩
  rw [h.1] at h1
  exact ⟨h1, by simpa using h2, h3⟩
end Go.Proofs.Ytmfmjdkeoiebpaa

namespace Go.Proofs.Ytmfmjdkeoiebpaa
open Go.RowKit

theorem extend_int (a : Option Addr) (n c : Nat) (l : List UInt8) (k : Int) (w : World) (h : Bts w w.heap.size a n l) (hk : 0 ≤ k) (hlen : (n : Int) + k ≤ 140737488355328) :
    Calls Try.prog 56 #[.slice a n c, .int .i64 k] w (ExtendPost w l k.toNat) := by
  have := extend_calls a n c l k.toNat w h (by omega)
  rwa [Int.toNat_of_nonneg hk] at this

/-- How many noughts make a length a multiple of four. -/
def gap (n : Nat) : Nat := (4 - n % 4) % 4
/-- Padded bytes. -/
def padL (l : List UInt8) : List UInt8 := l ++ List.replicate (gap l.length) 0
theorem gap_lt (n : Nat) : gap n < 4 := by unfold gap; omega
theorem padL_length (l : List UInt8) : (padL l).length = l.length + gap l.length := by simp [padL]

def PadPost (w : World) (l : List UInt8) (e : Ending) (w' : World) : Prop :=
  e = .returned (.slice (some ⟨w.heap.size, 0, none⟩) (padL l).length (padL l).length) ∧ Own w' w.heap.size (padL l) ∧ Below w.heap.size w w'

/-- A reader that New made lies in block 'r', its bytes in block 'g': at the place 'at', with the error 'err'. -/
def Rdr (w : World) (r g : Nat) (l : List UInt8) (i : Nat) (err : Int) : Prop :=
  w.heap[r]? = some (.cells #[.bool true, .slice (some ⟨g, 0, none⟩) l.length l.length, .int .i64 (i : Int), .int .i64 err] 103 (0, 0)) ∧ Own w g l ∧ i ≤ l.length ∧ l.length ≤ 140737488355328

def NewPost (w : World) (l : List UInt8) (e : Ending) (w' : World) : Prop :=
  ∃ r g, e = .returned (.pointer (some ⟨r, 0, none⟩)) ∧ w.heap.size ≤ r ∧ w.heap.size ≤ g ∧ Rdr w' r g l 0 0 ∧ Below w.heap.size w w'

theorem new_calls (a : Option Addr) (n c : Nat) (l : List UInt8) (w : World) (h : Bts w w.heap.size a n l) (hlen : n ≤ 140737488355328) :
    Calls Try.prog 42 #[.slice a n c] w (NewPost w l) := by
  have hn := Lib.hid h.1
  go_enter Try.func42, Try.ntmps42
  go_wp2_with fail
  refine (extend_zero a n c l w h (by omega)).mono ?_
  rintro e w' ⟨rfl, h2, h3⟩
  have H2 := Lib.hid h2
  clear h2
  go_wp2
  go_ret
  refine ⟨w'.heap.size, w.heap.size, rfl, h3.size, Nat.le_refl _, ⟨?_, H2.out.same (Below.heap_alloc _ _ _ H2.out.lt), Nat.zero_le _, ?_⟩, h3.alloc h3.size _⟩
  · rw [heap_alloc_new, hn.out]; rfl
  · rw [hn.out]; exact hlen

section
variable {w : World} {r g i : Nat} {l : List UInt8} {err : Int}
theorem Rdr.lt (h : Rdr w r g l i err) : r < w.heap.size := by
  rcases Nat.lt_or_ge r w.heap.size with hlt | hge
  · exact hlt
  · have := h.1; rw [Array.getElem?_eq_none hge] at this; cases this
theorem Rdr.c0 (h : Rdr w r g l i err) : w.cell? ⟨r, 0, none⟩ = some (.bool true) := (cell_of_row w r 0 _ _ _ h.1).trans rfl
theorem Rdr.c1 (h : Rdr w r g l i err) : w.cell? ⟨r, 1, none⟩ = some (.slice (some ⟨g, 0, none⟩) l.length l.length) := (cell_of_row w r 1 _ _ _ h.1).trans rfl
theorem Rdr.c2 (h : Rdr w r g l i err) : w.cell? ⟨r, 2, none⟩ = some (.int .i64 (i : Int)) := (cell_of_row w r 2 _ _ _ h.1).trans rfl
theorem Rdr.c3 (h : Rdr w r g l i err) : w.cell? ⟨r, 3, none⟩ = some (.int .i64 err) := (cell_of_row w r 3 _ _ _ h.1).trans rfl
theorem Rdr.free (h : Rdr w r g l i err) (k : Nat) : w.frozen? ⟨r, k, none⟩ = false := by simp [World.frozen?, h.1]
theorem Rdr.ne (h : Rdr w r g l i err) : r ≠ g := by
  rintro rfl
  have h1 := h.1
  have h2 := h.2.1
  unfold Own at h2
  rw [h1] at h2
  injection h2 with h2
  injection h2 with _ ht
  exact absurd ht (by decide)
theorem Rdr.same {w' : World} (h : Rdr w r g l i err) (h1 : w'.heap[r]? = w.heap[r]?) (h2 : w'.heap[g]? = w.heap[g]?) : Rdr w' r g l i err :=
  ⟨h1.trans h.1, h.2.1.same h2, h.2.2.1, h.2.2.2⟩
theorem Rdr.below {w' : World} {B : Nat} (h : Rdr w r g l i err) (hb : Below B w w') (h1 : r < B) (h2 : g < B) : Rdr w' r g l i err := h.same (hb.block _ h1) (hb.block _ h2)
theorem Rdr.bel {w' : World} (h : Rdr w r g l i err) (hb : Below w.heap.size w w') : Rdr w' r g l i err := h.below hb h.lt h.2.1.lt

theorem err_calls (h : Rdr w r g l i err) :
    Calls Try.prog 64 #[.pointer (some ⟨r, 0, none⟩)] w fun e w' => e = .returned (.int .i64 err) ∧ w = w' := by
  have c0 := h.c0
  have c3 := h.c3
  clear h
  go_enter Try.func64, Try.ntmps64
  go_wp2
  go_ret
  exact ⟨rfl, rfl⟩

theorem left_calls (h : Rdr w r g l i err) :
    Calls Try.prog 43 #[.pointer (some ⟨r, 0, none⟩)] w fun e w' => e = .returned (.int .i64 ((l.length : Int) - (i : Int))) ∧ ∃ m, w' = w.drewN m := by
  have c1 := h.c1
  have c2 := h.c2
  have hi := h.2.2.1
  have hl := h.2.2.2
  clear h
  go_enter Try.func43, Try.ntmps43
  go_wp2
  go_quiet (fail)
  go_wp2
  go_ret
  exact ⟨rfl, _, rfl⟩
end
end Go.Proofs.Ytmfmjdkeoiebpaa

namespace Go.Proofs.Ytmfmjdkeoiebpaa
open Go.RowKit

/-- The error that a reader has behind a question for 'n' bytes. -/
def errOf (err : Int) (ok : Bool) (n left : Int) : Int := if err = 0 then (if ok then (if left < n then 4 else 0) else 2) else err

section
variable {w : World} {r g i : Nat} {l : List UInt8} {err : Int}

theorem Rdr.setErr (h : Rdr w r g l i err) (e2 : Int) : Rdr (w.setCell ⟨r, 3, none⟩ (.int .i64 e2)) r g l i e2 := by
  refine ⟨?_, h.2.1.same (Below.heap_setCell _ _ _ _ (Ne.symm h.ne)), h.2.2.1, h.2.2.2⟩
  have h1 := h.1
  simp [World.setCell, Array.getElem?_modify, h1]
theorem Rdr.setAt (h : Rdr w r g l i err) (j : Nat) (hj : j ≤ l.length) : Rdr (w.setCell ⟨r, 2, none⟩ (.int .i64 (j : Int))) r g l j err := by
  refine ⟨?_, h.2.1.same (Below.heap_setCell _ _ _ _ (Ne.symm h.ne)), hj, h.2.2.2⟩
  have h1 := h.1
  simp [World.setCell, Array.getElem?_modify, h1]
theorem Rdr.drewN (h : Rdr w r g l i err) (m : Nat) : Rdr (w.drewN m) r g l i err := h

theorem upd_set (w : World) (r k : Nat) (u : Value) : w.grownBy (w.setCell ⟨r, k, none⟩ u) (some r) :=
  ⟨rfl, rfl, rfl, by simp [World.setCell], fun j _ hj => Below.heap_setCell _ _ _ _ (fun e => hj (by rw [e]))⟩
theorem upd_drewN {a w : World} {row : Option Nat} (h : a.grownBy w row) (n : Nat) : a.grownBy (w.drewN n) row := ⟨h.os, h.tape, h.output, h.size, h.block⟩
theorem upd_below {a w : World} (h : Below a.heap.size a w) (row : Option Nat) : a.grownBy w row := ⟨h.os, h.tape, h.output, h.size, fun i hi _ => h.block i hi⟩

theorem upd_trans {a b c : World} {row : Option Nat} (h : a.grownBy b row) (k : b.grownBy c row) : a.grownBy c row :=
  ⟨k.os.trans h.os, k.tape.trans h.tape, k.output.trans h.output, Nat.le_trans h.size k.size, fun i hi hne => (k.block i (Nat.lt_of_lt_of_le hi h.size) hne).trans (h.block i hi hne)⟩

def ReadyPost (w : World) (r g : Nat) (l : List UInt8) (i : Nat) (err' : Int) (b : Bool) (e : Ending) (w' : World) : Prop :=
  e = .returned (.bool b) ∧ Rdr w' r g l i err' ∧ w.grownBy w' (some r) ∧ w'.heap.size = w.heap.size

theorem ready_err (h : Rdr w r g l i err) (n : Int) (ok : Bool) (he : err ≠ 0) :
    Calls Try.prog 62 #[.pointer (some ⟨r, 0, none⟩), .int .i64 n, .bool ok] w (ReadyPost w r g l i err false) := by
  have H := Lib.hid h
  have hb : (err != 0) = true := by simpa using he
  clear h he
  go_enter Try.func62, Try.ntmps62
  go_wp2_with fail
  ((with_reducible refine (err_calls H.out).mono ?_))
  rintro e w' ⟨rfl, rfl⟩
  go_wp2
  go_ret
  exact ⟨rfl, H.out, World.grownBy.refl _ _, rfl⟩

theorem ready_arg (h : Rdr w r g l i 0) (n : Int) :
    Calls Try.prog 62 #[.pointer (some ⟨r, 0, none⟩), .int .i64 n, .bool false] w (ReadyPost w r g l i 2 false) := by
  have H := Lib.hid h
  have c3 := h.c3
  have f3 := h.free 3
  clear h
  go_enter Try.func62, Try.ntmps62
  go_wp2_with fail
  ((with_reducible refine (err_calls H.out).mono ?_))
  rintro e w' ⟨rfl, rfl⟩
  go_wp2
  go_ret
  exact ⟨rfl, H.out.setErr 2, upd_set _ _ _ _, by simp [World.setCell]⟩

theorem ready_short (h : Rdr w r g l i 0) (n : Int) (hn : (l.length : Int) - (i : Int) < n) :
    Calls Try.prog 62 #[.pointer (some ⟨r, 0, none⟩), .int .i64 n, .bool true] w (ReadyPost w r g l i 4 false) := by
  have H := Lib.hid h
  have c3 := h.c3
  have f3 := h.free 3
  clear h
  go_enter Try.func62, Try.ntmps62
  go_wp2_with fail
  ((with_reducible refine (err_calls H.out).mono ?_))
  rintro e w' ⟨rfl, rfl⟩
  go_wp2_with fail
  ((with_reducible refine (left_calls H.out).mono ?_))
  rintro e w' ⟨rfl, m, rfl⟩
  go_wp2
  go_ret
  exact ⟨rfl, (H.out.drewN m).setErr 4, upd_trans (upd_drewN (World.grownBy.refl _ _) m) (upd_set _ _ _ _), by simp [World.setCell]⟩

theorem ready_yes (h : Rdr w r g l i 0) (n : Int) (hn : n ≤ (l.length : Int) - (i : Int)) :
    Calls Try.prog 62 #[.pointer (some ⟨r, 0, none⟩), .int .i64 n, .bool true] w (ReadyPost w r g l i 0 true) := by
  have H := Lib.hid h
  have c3 := h.c3
  clear h
  go_enter Try.func62, Try.ntmps62
  go_wp2_with fail
  ((with_reducible refine (err_calls H.out).mono ?_))
  rintro e w' ⟨rfl, rfl⟩
  go_wp2_with fail
  ((with_reducible refine (left_calls H.out).mono ?_))
  rintro e w' ⟨rfl, m, rfl⟩
  go_wp2
  go_ret
  exact ⟨rfl, H.out.drewN m, upd_drewN (World.grownBy.refl _ _) m, rfl⟩

def NextPost (w : World) (r g : Nat) (l : List UInt8) (i n : Nat) (e : Ending) (w' : World) : Prop :=
  ∃ a c, e = .returned (.slice a n c) ∧ Bts w' w'.heap.size a n ((l.drop i).take n) ∧ Rdr w' r g l (i + n) 0 ∧ w.grownBy w' (some r) ∧ w'.heap.size = w.heap.size

theorem next_calls (h : Rdr w r g l i 0) (n : Nat) (hn : i + n ≤ l.length) :
    Calls Try.prog 63 #[.pointer (some ⟨r, 0, none⟩), .int .i64 (n : Int)] w (NextPost w r g l i n) := by
  have c1 := h.c1
  have c2 := h.c2
  have f2 := h.free 2
  have hl := h.2.2.2
  have hs : Rdr (w.setCell ⟨r, 2, none⟩ (.int .i64 ((i : Int) + (n : Int)))) r g l (i + n) 0 := by
    have := h.setAt (i + n) hn
    rwa [Int.natCast_add] at this
  have H := Lib.hid h
  have HS := Lib.hid hs
  clear h hs
  by_cases hi : i = l.length
  · have hn0 : n = 0 := by omega
    subst hn0
    go_enter Try.func63, Try.ntmps63
    go_wp2
    go_quiet (fail)
    go_wp2
    go_ret
    have hs := HS.out
    rw [hi] at hs
    refine ⟨_, _, rfl, ?_, ?_, upd_drewN (upd_set _ _ _ _) nq, by simp [World.setCell]⟩
    · simp [Bts]
    · have hs' : Rdr (w.setCell ⟨r, 2, none⟩ (.int .i64 (l.length : Int))) r g l (l.length + 0) 0 := by simpa using hs
      rw [hi]
      exact hs'.drewN nq
  · have hi2 : i < l.length := by omega
    go_enter Try.func63, Try.ntmps63
    go_wp2
    go_quiet (fail)
    go_wp2
    go_ret
    have e1 : i + n - i = n := by omega
    rw [e1]
    refine ⟨_, _, rfl, ?_, HS.out.drewN nq, upd_drewN (upd_set _ _ _ _) nq, by simp [World.setCell]⟩
    have hp := (HS.out.drewN nq).2.1.part (HS.out.drewN nq).2.1.lt i (i + n) (by omega) hn
    rwa [e1] at hp

/-- What 'Bytes' answers where nothing is wrong: new memory. -/
def BytesPost (w : World) (r g : Nat) (l : List UInt8) (i n : Nat) (e : Ending) (w' : World) : Prop :=
  ∃ b, e = .returned (.slice (some ⟨b, 0, none⟩) n n) ∧ w.heap.size ≤ b ∧ Own w' b ((l.drop i).take n) ∧ Rdr w' r g l (i + n) 0 ∧ w.grownBy w' (some r)

/-- What a call answers where something is wrong: nothing; the place stays. -/
def WrongPost (w : World) (r g : Nat) (l : List UInt8) (i : Nat) (err : Int) (v : Value) (e : Ending) (w' : World) : Prop :=
  e = .returned v ∧ Rdr w' r g l i err ∧ w.grownBy w' (some r)

theorem ready_no (h : Rdr w r g l i err) (n : Int) (ok : Bool) (hw : errOf err ok n ((l.length : Int) - (i : Int)) ≠ 0) :
    Calls Try.prog 62 #[.pointer (some ⟨r, 0, none⟩), .int .i64 n, .bool ok] w (ReadyPost w r g l i (errOf err ok n ((l.length : Int) - (i : Int))) false) := by
  unfold errOf at *
  by_cases he : err = 0
  · subst he
    cases ok with
    | false => simpa using ready_arg h n
    | true =>
      by_cases hn : (l.length : Int) - (i : Int) < n
      · simpa [hn] using ready_short h n hn
      · simp [hn] at hw
  · simpa [he] using ready_err h n ok he

end
end Go.Proofs.Ytmfmjdkeoiebpaa

namespace Go.Proofs.Ytmfmjdkeoiebpaa
open Go.RowKit

/-- The number that bytes tell, the first one the most. -/
def num (l : List UInt8) : Nat := l.foldl (fun u x => u * 256 + x.toNat) 0
theorem num_nil : num [] = 0 := rfl
theorem num_snoc (l : List UInt8) (x : UInt8) : num (l ++ [x]) = num l * 256 + x.toNat := by simp [num]
theorem num_lt_from (l : List UInt8) : ∀ u : Nat, l.foldl (fun u x => u * 256 + x.toNat) u < (u + 1) * 256 ^ l.length := by
  induction l with
  | nil => intro u; simp
  | cons x l ih =>
    intro u
    have h := ih (u * 256 + x.toNat)
    have hx : x.toNat < 256 := x.toNat_lt
    have h2 : (u * 256 + x.toNat + 1) * 256 ^ l.length ≤ ((u + 1) * 256) * 256 ^ l.length := Nat.mul_le_mul_right _ (by omega)
    rw [List.foldl_cons, List.length_cons, Nat.pow_succ, Nat.mul_comm (256 ^ l.length), ← Nat.mul_assoc]
    omega
theorem num_lt (l : List UInt8) : num l < 256 ^ l.length := by simpa [num] using num_lt_from l 0
theorem take_snoc (l : List UInt8) (k : Nat) (h : k < l.length) : l.take (k + 1) = l.take k ++ [l[k]] := List.take_succ_eq_append_getElem h

/-- A number moved up by a byte, and the byte. -/
theorem or_byte (a x : Nat) (ha : a < 72057594037927936) (hx : x < 256) : bits .or .u64 (IntKind.u64.wrap ((a : Int) * 256)) (IntKind.u64.wrap (x : Int)) = ((a * 256 + x : Nat) : Int) := by
  have e1 : IntKind.u64.wrap ((a : Int) * 256) = ((a * 256 : Nat) : Int) := by rw [IntKind.wrap_u64]; omega
  have e2 : IntKind.u64.wrap (x : Int) = (x : Int) := by rw [IntKind.wrap_u64]; omega
  rw [e1, e2, u64_or_nat _ _ (by omega) (by omega)]
  have h := Nat.two_pow_add_eq_or_of_lt (i := 8) (b := x) (by omega) a
  rw [Nat.mul_comm a 256]
  exact congrArg _ h.symm

section
variable {w : World} {r g i : Nat} {l : List UInt8} {err : Int}

def UintPost (w : World) (r g : Nat) (l : List UInt8) (i n : Nat) (e : Ending) (w' : World) : Prop :=
  e = .returned (.int .u64 (num ((l.drop i).take n) : Nat)) ∧ Rdr w' r g l (i + n) 0 ∧ w.grownBy w' (some r)

theorem uint_no (h : Rdr w r g l i err) (n : Int) (hw : errOf err (wid n) n ((l.length : Int) - (i : Int)) ≠ 0) :
    Calls Try.prog 57 #[.pointer (some ⟨r, 0, none⟩), .int .i64 n] w (WrongPost w r g l i (errOf err (wid n) n ((l.length : Int) - (i : Int))) (.int .u64 0)) := by
  have H := Lib.hid h
  have HW := Lib.hid hw
  clear h hw
  go_enter Try.func57, Try.ntmps57
  go_wp2_with fail
  ((with_reducible refine (isWidth_calls n _).mono ?_))
  rintro e w1 ⟨rfl, rfl⟩
  go_wp2_with fail
  ((with_reducible refine (ready_no H.out _ _ HW.out).mono ?_))
  rintro e w1 ⟨rfl, h1, u1, s1⟩
  have H1 := Lib.hid h1
  clear h1 s1
  go_wp2
  go_ret
  exact ⟨rfl, H1.out, u1⟩

set_option maxHeartbeats 400000 in
theorem uint_ok (h : Rdr w r g l i 0) (n : Nat) (h1 : 1 ≤ n) (h8 : n ≤ 8) (hn : i + n ≤ l.length) :
    Calls Try.prog 57 #[.pointer (some ⟨r, 0, none⟩), .int .i64 (n : Int)] w (UintPost w r g l i n) := by
  have hl := h.2.2.2
  have H := Lib.hid h
  have hw : wid (n : Int) = true := wid_yes (by omega) (by omega)
  clear h
  go_enter Try.func57, Try.ntmps57
  go_wp2_with fail
  ((with_reducible refine (isWidth_calls n _).mono ?_))
  rw [hw]
  rintro e w1 ⟨rfl, rfl⟩
  go_wp2_with fail
  ((with_reducible refine (ready_yes H.out _ (by omega)).mono ?_))
  rintro e w1 ⟨rfl, h1, u1, s1⟩
  have H1 := Lib.hid h1
  have S1 := Lib.hid s1
  clear h1 s1
  go_wp2_with fail
  ((with_reducible refine (next_calls H1.out n hn).mono ?_))
  rintro e w2 ⟨a, c, rfl, hb, h2, u2, s2⟩
  have H2 := Lib.hid h2
  have S2 := Lib.hid s2
  have HB := Lib.hid hb
  clear h2 s2 hb
  go_wp2_with fail
  obtain ⟨m, hm⟩ : ∃ m, m = (l.drop i).take n := ⟨_, rfl⟩
  have HM := Lib.hid hm
  clear hm
  obtain ⟨b, o, rfl, _, hc⟩ := HB.out.2 (by omega)
  have hml : m.length = n := by rw [HM.out]; exact HB.out.1
  have HML := Lib.hid hml
  have HC : Hid (∀ (k : Nat) (h : k < m.length), w2.cell? ⟨b, o + k, none⟩ = some (bv m[k])) := by
    rw [HM.out]; exact hc
  clear hml hc HB
  go_loop [5, 18] (fun u k => ∃ j : Nat, j ≤ n ∧ k = .int .i64 (j : Int) ∧ u = .int .u64 ((num (m.take j) : Nat) : Int)) (fun _ k => n - (intOf k).toNat)
  case atStart => exact ⟨0, Nat.zero_le _, rfl, rfl⟩
  case round =>
    obtain ⟨j, hj, rfl, rfl⟩ := hrel
    by_cases hlt : j < n
    · have hjm : j < m.length := by rw [HML.out]; exact hlt
      have hcell := HC.out j hjm
      unfold bv at hcell
      have hnl := num_lt (m.take j)
      have hp : 256 ^ (m.take j).length ≤ 256 ^ 7 := Nat.pow_le_pow_right (by omega) (by simp; omega)
      have hst : num (m.take (j + 1)) = num (m.take j) * 256 + m[j].toNat := by rw [take_snoc m j hjm, num_snoc]
      have HX := Lib.hid ((or_byte (num (m.take j)) m[j].toNat (by omega) m[j].toNat_lt).trans (congrArg (fun z : Nat => (z : Int)) hst.symm))
      clear hnl hp hst
      go_wp2
      exact ⟨⟨j + 1, by omega, by go_num, congrArg (Value.int .u64) HX.out⟩, by simp [intOf]; omega⟩
    · have hjn : j = n := by omega
      subst hjn
      go_wp2
      go_ret
      refine ⟨?_, H2.out, upd_trans u1 u2⟩
      have e1 : m.take j = m := List.take_of_length_le (by rw [HML.out]; exact Nat.le_refl _)
      rw [e1, HM.out]; rfl
end
end Go.Proofs.Ytmfmjdkeoiebpaa

namespace Go.Proofs.Ytmfmjdkeoiebpaa
open Go.RowKit

/-- The bytes of a number, of which there are 'n', the first one the most. -/
def dig : Nat → Nat → List UInt8
  | 0, _ => []
  | k + 1, u => UInt8.ofNat (u / 256 ^ k) :: dig k u
theorem dig_length (n u : Nat) : (dig n u).length = n := by
  induction n with
  | zero => rfl
  | succ k ih => simp [dig, ih]

theorem Own.set_ {w : World} {g : Nat} {l : List UInt8} (h : Own w g l) (i : Nat) (x : UInt8) : Own (w.setCell ⟨g, i, none⟩ (.int .u8 (x.toNat : Int))) g (l.set i x) := by
  unfold Own at *
  simp [World.setCell, Array.getElem?_modify, h, List.map_set, bv]

/-- The bytes while the last 'k' of 'n' digits are there. -/
def part (l : List UInt8) (n k u : Nat) : List UInt8 := l ++ (List.replicate (n - k) 0 ++ dig k u)
theorem part_length (l : List UInt8) (n k u : Nat) (h : k ≤ n) : (part l n k u).length = l.length + n := by
  simp [part, dig_length]; omega
theorem part_next (l : List UInt8) (n k u : Nat) (h : k < n) : (part l n k u).set (l.length + n - 1 - k) (UInt8.ofNat (u / 256 ^ k)) = part l n (k + 1) u := by
  unfold part
  rw [List.set_append_right _ _ (by omega)]
  congr 1
  have e : n - k = (n - (k + 1)) + 1 := by omega
  rw [e, List.replicate_succ', List.append_assoc, List.set_append_right _ _ (by simp; omega)]
  have e2 : l.length + n - 1 - k - l.length - (List.replicate (n - (k + 1)) (0 : UInt8)).length = 0 := by simp; omega
  rw [e2]
  simp [dig]
theorem part_zero (l : List UInt8) (n u : Nat) : part l n 0 u = l ++ List.replicate n 0 := by simp [part, dig]
theorem part_all (l : List UInt8) (n u : Nat) : part l n n u = l ++ dig n u := by simp [part]

theorem put_arg (a : Option Addr) (n : Nat) (c : Nat) (k : Int) (u : Int) (w : World) (hk : k < 1 ∨ 8 < k) :
    Calls Try.prog 53 #[.slice a n c, .int .i64 k, .int .u64 u] w fun e w' => e = .returned (.tuple #[.slice none 0 0, .int .i64 2]) ∧ w = w' := by
  have hw := wid_no hk
  clear hk
  go_enter Try.func53, Try.ntmps53
  go_wp2_with fail
  ((with_reducible refine (isWidth_calls k _).mono ?_))
  rw [hw]
  rintro e w1 ⟨rfl, rfl⟩
  go_wp2
  go_ret2
  exact ⟨rfl, rfl⟩

theorem pow_eight (k : Nat) : (2 : Int) ^ (8 * k) = ((256 ^ k : Nat) : Int) := by
  rw [Int.pow_mul, Int.natCast_pow]; rfl
theorem shr_big (u k : Nat) (h : 256 ^ k ≤ u) : ((u : Int) / 2 ^ (8 * k) != 0) = true := by
  rw [pow_eight, ← Int.natCast_ediv, bne_iff_ne]
  have := Nat.div_pos h (Nat.pow_pos (by omega))
  omega
theorem shr_fit (u k : Nat) (h : u < 256 ^ k) : ((u : Int) / 2 ^ (8 * k) != 0) = false := by
  rw [pow_eight, ← Int.natCast_ediv, Nat.div_eq_of_lt h]; rfl

theorem put_big (a : Option Addr) (n : Nat) (c : Nat) (k : Nat) (u : Nat) (w : World) (h1 : 1 ≤ k) (h8 : k ≤ 8) (hb : 256 ^ k ≤ u) :
    Calls Try.prog 53 #[.slice a n c, .int .i64 (k : Int), .int .u64 (u : Int)] w fun e w' => e = .returned (.tuple #[.slice none 0 0, .int .i64 3]) ∧ w = w' := by
  have hw : wid (k : Int) = true := wid_yes (by omega) (by omega)
  have hq := shr_big u k hb
  clear hb
  go_enter Try.func53, Try.ntmps53
  go_wp2_with fail
  ((with_reducible refine (isWidth_calls k _).mono ?_))
  rw [hw]
  rintro e w1 ⟨rfl, rfl⟩
  go_wp2
  go_ret2
  exact ⟨rfl, rfl⟩

def PutPost (w : World) (l : List UInt8) (k u : Nat) (e : Ending) (w' : World) : Prop :=
  e = .returned (.tuple #[.slice (some ⟨w.heap.size, 0, none⟩) (l.length + k) (l.length + k), .int .i64 0]) ∧ Own w' w.heap.size (l ++ dig k u) ∧ Below w.heap.size w w'

theorem low_byte (v : Nat) : ((v : Int) % 256) = ((UInt8.ofNat v).toNat : Int) := by
  rw [UInt8.toNat_ofNat']; omega
theorem div_next (u j : Nat) : u / 256 ^ j / 256 = u / 256 ^ (j + 1) := by
  rw [Nat.pow_succ, ← Nat.div_div_eq_div_mul]

set_option maxHeartbeats 400000 in
theorem put_ok (a : Option Addr) (n : Nat) (c : Nat) (l : List UInt8) (k : Nat) (u : Nat) (w : World) (h : Bts w w.heap.size a n l) (hlen : n + 8 ≤ 140737488355328) (h1 : 1 ≤ k) (h8 : k ≤ 8) (hb : u < 256 ^ k) :
    Calls Try.prog 53 #[.slice a n c, .int .i64 (k : Int), .int .u64 (u : Int)] w (PutPost w l k u) := by
  have hw : wid (k : Int) = true := wid_yes (by omega) (by omega)
  have hq := shr_fit u k hb
  clear hb
  have hn := h.1
  subst hn
  go_enter Try.func53, Try.ntmps53
  go_wp2_with fail
  ((with_reducible refine (isWidth_calls k _).mono ?_))
  rw [hw]
  rintro e w1 ⟨rfl, rfl⟩
  go_wp2_with fail
  ((with_reducible refine (extend_calls a _ c l k _ h (by omega)).mono ?_))
  rintro e w1 ⟨rfl, h1, b1⟩
  have H1 := Lib.hid h1
  have B1 := Lib.hid b1
  clear h1 b1 hq hw
  go_wp2_with fail
  go_loopw [2, 9] (fun v t W => ∃ j x : Nat, j ≤ k ∧ t = .int .i64 ((l.length : Int) + (k : Int) - 1 - (j : Int)) ∧ v = .int .u64 (x : Int) ∧ Hid (x = u / 256 ^ j) ∧ Own W w.heap.size (part l k j u) ∧ Below w.heap.size w W) (fun _ t _ => (intOf t + 1 - (l.length : Int)).toNat)
  case atStart =>
    refine ⟨0, u, Nat.zero_le _, ?_, rfl, ?_, ?_, B1.out⟩
    · simp
    · exact (by simp : u = u / 256 ^ 0)
    · rw [part_zero]; exact H1.out
  case round =>
    obtain ⟨j, x, hj, rfl, rfl, HX, hown, hbel⟩ := hrel
    by_cases hlt : j < k
    · have hpl := part_length l k j u hj
      obtain ⟨y, hcell⟩ : ∃ y : Int, wr.cell? ⟨w.heap.size, l.length + k - 1 - j, none⟩ = some (.int .u8 y) := ⟨_, hown.cell (l.length + k - 1 - j) (by omega)⟩
      have hfree := hown.frozen (l.length + k - 1 - j)
      have hown2 := hown.set_ (l.length + k - 1 - j) (UInt8.ofNat x)
      rw [HX.out, part_next l k j u hlt, ← HX.out, ← low_byte] at hown2
      have hbel2 := hbel.setCell (p := ⟨w.heap.size, l.length + k - 1 - j, none⟩) (Nat.le_refl _) (.int .u8 ((x : Int) % 256))
      have HO := Lib.hid hown2
      have HB := Lib.hid hbel2
      clear hown hbel hown2 hbel2 hpl
      go_wp2
      refine ⟨⟨j + 1, x / 256, by omega, ?_, by go_num, ?_, HO.out, HB.out⟩, ?_⟩
      · congr 1; omega
      · exact (by rw [HX.out, div_next] : x / 256 = u / 256 ^ (j + 1))
      · simp [intOf]; omega
    · have hjk : j = k := by omega
      subst hjk
      rw [part_all] at hown
      go_wp2
      go_ret2
      exact ⟨rfl, hown, hbel⟩
end Go.Proofs.Ytmfmjdkeoiebpaa

namespace Go.Proofs.Ytmfmjdkeoiebpaa
open Go.RowKit

theorem errOf_zero {err n left : Int} {ok : Bool} (h : errOf err ok n left = 0) : err = 0 ∧ ok = true ∧ n ≤ left := by
  unfold errOf at h
  by_cases he : err = 0
  · rw [if_pos he] at h
    cases ok with
    | false => simp at h
    | true =>
      by_cases hn : left < n
      · simp [hn] at h
      · exact ⟨he, rfl, by omega⟩
  · rw [if_neg he] at h; exact absurd h he
theorem wid_true {n : Int} (h : wid n = true) : 1 ≤ n ∧ n ≤ 8 := by simpa [wid] using h

section
variable {w : World} {r g i : Nat} {l : List UInt8} {err : Int}

theorem uint_i (h : Rdr w r g l i 0) (n : Int) (h1 : 1 ≤ n) (h8 : n ≤ 8) (hn : (i : Int) + n ≤ (l.length : Int)) :
    Calls Try.prog 57 #[.pointer (some ⟨r, 0, none⟩), .int .i64 n] w (UintPost w r g l i n.toNat) := by
  have := uint_ok h n.toNat (by omega) (by omega) (by omega)
  rwa [Int.toNat_of_nonneg (by omega)] at this
theorem put_i (a : Option Addr) (n : Nat) (c : Nat) (l : List UInt8) (k u : Int) (w : World) (h : Bts w w.heap.size a n l) (hlen : n + 8 ≤ 140737488355328) (h1 : 1 ≤ k) (h8 : k ≤ 8) (hu : 0 ≤ u) (hb : u.toNat < 256 ^ k.toNat) :
    Calls Try.prog 53 #[.slice a n c, .int .i64 k, .int .u64 u] w (PutPost w l k.toNat u.toNat) := by
  have := put_ok a n c l k.toNat u.toNat w h hlen (by omega) (by omega) hb
  rwa [Int.toNat_of_nonneg (by omega), Int.toNat_of_nonneg hu] at this

/-- What a reader answers, and where it is then, whatever is asked. -/
def uErr (l : List UInt8) (i : Nat) (err n : Int) : Int := errOf err (wid n) n ((l.length : Int) - (i : Int))
def uPos (l : List UInt8) (i : Nat) (err n : Int) : Nat := if uErr l i err n = 0 then i + n.toNat else i
def uVal (l : List UInt8) (i : Nat) (err n : Int) : Nat := if uErr l i err n = 0 then num ((l.drop i).take n.toNat) else 0
def bErr (l : List UInt8) (i : Nat) (err n : Int) : Int := errOf err (decide (0 ≤ n)) n ((l.length : Int) - (i : Int))
def bPos (l : List UInt8) (i : Nat) (err n : Int) : Nat := if bErr l i err n = 0 then i + n.toNat else i
def bVal (l : List UInt8) (i : Nat) (err n : Int) : List UInt8 := if bErr l i err n = 0 then (l.drop i).take n.toNat else []

def UintAny (w : World) (r g : Nat) (l : List UInt8) (i : Nat) (err n : Int) (e : Ending) (w' : World) : Prop :=
  e = .returned (.int .u64 ((uVal l i err n : Nat) : Int)) ∧ Rdr w' r g l (uPos l i err n) (uErr l i err n) ∧ w.grownBy w' (some r)
def BytesAny (w : World) (r g : Nat) (l : List UInt8) (i : Nat) (err n : Int) (e : Ending) (w' : World) : Prop :=
  ∃ a c, e = .returned (.slice a (bVal l i err n).length c) ∧ Bts w' w'.heap.size a (bVal l i err n).length (bVal l i err n) ∧ Rdr w' r g l (bPos l i err n) (bErr l i err n) ∧ w.grownBy w' (some r)

theorem uint_any (h : Rdr w r g l i err) (n : Int) :
    Calls Try.prog 57 #[.pointer (some ⟨r, 0, none⟩), .int .i64 n] w (UintAny w r g l i err n) := by
  by_cases hz : uErr l i err n = 0
  · obtain ⟨rfl, hw, hn⟩ := errOf_zero hz
    have hw' := wid_true hw
    refine (uint_i h n hw'.1 hw'.2 (by omega)).mono ?_
    rintro e w' ⟨h1, h2, h3⟩
    exact ⟨by rw [h1]; unfold uVal; rw [if_pos hz], by unfold uPos; rw [if_pos hz, hz]; exact h2, h3⟩
  · refine (uint_no h n hz).mono ?_
    rintro e w' ⟨h1, h2, h3⟩
    exact ⟨by rw [h1]; unfold uVal; rw [if_neg hz]; rfl, by unfold uPos; rw [if_neg hz]; exact h2, h3⟩

end
end Go.Proofs.Ytmfmjdkeoiebpaa
