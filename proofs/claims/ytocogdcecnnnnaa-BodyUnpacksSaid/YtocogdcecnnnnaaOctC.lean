/-
  Contracts of package octet: the reader's methods ready, next, Bytes. Conditions: the reader is one that New made.
-/
import Derived.Test.YtocogdcecnnnnaaOctB
namespace Go.Proofs.Ytocogdcecnnnnaa
open Go.RowKit

/-- The error that a reader has behind a question for 'n' bytes. -/
def errOf (err : Int) (ok : Bool) (n left : Int) : Int := if err = 0 then (if ok then (if left < n then 4 else 0) else 2) else err

section
variable {w : World} {r g i : Nat} {l : List UInt8} {err : Int}

theorem Rdr.setErr (h : Rdr w r g l i err) (e2 : Int) : Rdr (w.setCell ⟨r, 3, none⟩ (.int .i64 e2)) r g l i e2 := by
  refine ⟨?_, h.2.1.same (Below.heap_setCell _ _ _ _ (Ne.symm h.ne)), h.2.2.1, h.2.2.2⟩
  have h1 := h.1
  simp [World.setCell, Array.getElem?_modify, h1]
theorem Rdr.setAt (h : Rdr w r g l i err) (j : Nat) (hj : j ≤ l.length) : Rdr (w.setCell ⟨r, 2, none⟩ (.int .i64 (j : Int))) r g l j err := by
  refine ⟨?_, h.2.1.same (Below.heap_setCell _ _ _ _ (Ne.symm h.ne)), hj, h.2.2.2⟩
  have h1 := h.1
  simp [World.setCell, Array.getElem?_modify, h1]
theorem Rdr.drewN (h : Rdr w r g l i err) (m : Nat) : Rdr (w.drewN m) r g l i err := h

theorem upd_set (w : World) (r k : Nat) (u : Value) : w.grownBy (w.setCell ⟨r, k, none⟩ u) (some r) :=
  ⟨rfl, rfl, rfl, by simp [World.setCell], fun j _ hj => Below.heap_setCell _ _ _ _ (fun e => hj (by rw [e]))⟩
theorem upd_drewN {a w : World} {row : Option Nat} (h : a.grownBy w row) (n : Nat) : a.grownBy (w.drewN n) row := ⟨h.os, h.tape, h.output, h.size, h.block⟩
theorem upd_below {a w : World} (h : Below a.heap.size a w) (row : Option Nat) : a.grownBy w row := ⟨h.os, h.tape, h.output, h.size, fun i hi _ => h.block i hi⟩

theorem upd_trans {a b c : World} {row : Option Nat} (h : a.grownBy b row) (k : b.grownBy c row) : a.grownBy c row :=
  ⟨k.os.trans h.os, k.tape.trans h.tape, k.output.trans h.output, Nat.le_trans h.size k.size, fun i hi hne => (k.block i (Nat.lt_of_lt_of_le hi h.size) hne).trans (h.block i hi hne)⟩

def ReadyPost (w : World) (r g : Nat) (l : List UInt8) (i : Nat) (err' : Int) (b : Bool) (e : Ending) (w' : World) : Prop :=
  e = .returned (.bool b) ∧ Rdr w' r g l i err' ∧ w.grownBy w' (some r) ∧ w'.heap.size = w.heap.size

theorem ready_err (h : Rdr w r g l i err) (n : Int) (ok : Bool) (he : err ≠ 0) :
    Calls Try.prog 73 #[.pointer (some ⟨r, 0, none⟩), .int .i64 n, .bool ok] w (ReadyPost w r g l i err false) := by
  have H := Lib.hid h
  have hb : (err != 0) = true := by simpa using he
  clear h he
  go_enter Try.func73, Try.ntmps73
  go_wp2_with fail
  ((with_reducible refine (err_calls H.out).mono ?_))
  rintro e w' ⟨rfl, rfl⟩
  go_wp2
  go_ret
  exact ⟨rfl, H.out, World.grownBy.refl _ _, rfl⟩

theorem ready_arg (h : Rdr w r g l i 0) (n : Int) :
    Calls Try.prog 73 #[.pointer (some ⟨r, 0, none⟩), .int .i64 n, .bool false] w (ReadyPost w r g l i 2 false) := by
  have H := Lib.hid h
  have c3 := h.c3
  have f3 := h.free 3
  clear h
  go_enter Try.func73, Try.ntmps73
  go_wp2_with fail
  ((with_reducible refine (err_calls H.out).mono ?_))
  rintro e w' ⟨rfl, rfl⟩
  go_wp2
  go_ret
  exact ⟨rfl, H.out.setErr 2, upd_set _ _ _ _, by simp [World.setCell]⟩

theorem ready_short (h : Rdr w r g l i 0) (n : Int) (hn : (l.length : Int) - (i : Int) < n) :
    Calls Try.prog 73 #[.pointer (some ⟨r, 0, none⟩), .int .i64 n, .bool true] w (ReadyPost w r g l i 4 false) := by
  have H := Lib.hid h
  have c3 := h.c3
  have f3 := h.free 3
  clear h
  go_enter Try.func73, Try.ntmps73
  go_wp2_with fail
  ((with_reducible refine (err_calls H.out).mono ?_))
  rintro e w' ⟨rfl, rfl⟩
  go_wp2_with fail
  ((with_reducible refine (left_calls H.out).mono ?_))
  rintro e w' ⟨rfl, m, rfl⟩
  go_wp2
  go_ret
  exact ⟨rfl, (H.out.drewN m).setErr 4, upd_trans (upd_drewN (World.grownBy.refl _ _) m) (upd_set _ _ _ _), by simp [World.setCell]⟩

theorem ready_yes (h : Rdr w r g l i 0) (n : Int) (hn : n ≤ (l.length : Int) - (i : Int)) :
    Calls Try.prog 73 #[.pointer (some ⟨r, 0, none⟩), .int .i64 n, .bool true] w (ReadyPost w r g l i 0 true) := by
  have H := Lib.hid h
  have c3 := h.c3
  clear h
  go_enter Try.func73, Try.ntmps73
  go_wp2_with fail
  ((with_reducible refine (err_calls H.out).mono ?_))
  rintro e w' ⟨rfl, rfl⟩
  go_wp2_with fail
  ((with_reducible refine (left_calls H.out).mono ?_))
  rintro e w' ⟨rfl, m, rfl⟩
  go_wp2
  go_ret
  exact ⟨rfl, H.out.drewN m, upd_drewN (World.grownBy.refl _ _) m, rfl⟩

def NextPost (w : World) (r g : Nat) (l : List UInt8) (i n : Nat) (e : Ending) (w' : World) : Prop :=
  ∃ a c, e = .returned (.slice a n c) ∧ Bts w' w'.heap.size a n ((l.drop i).take n) ∧ Rdr w' r g l (i + n) 0 ∧ w.grownBy w' (some r) ∧ w'.heap.size = w.heap.size

theorem next_calls (h : Rdr w r g l i 0) (n : Nat) (hn : i + n ≤ l.length) :
    Calls Try.prog 74 #[.pointer (some ⟨r, 0, none⟩), .int .i64 (n : Int)] w (NextPost w r g l i n) := by
  have c1 := h.c1
  have c2 := h.c2
  have f2 := h.free 2
  have hl := h.2.2.2
  have hs : Rdr (w.setCell ⟨r, 2, none⟩ (.int .i64 ((i : Int) + (n : Int)))) r g l (i + n) 0 := by
    have := h.setAt (i + n) hn
    rwa [Int.natCast_add] at this
  have H := Lib.hid h
  have HS := Lib.hid hs
  clear h hs
  by_cases hi : i = l.length
  · have hn0 : n = 0 := by omega
    subst hn0
    go_enter Try.func74, Try.ntmps74
    go_wp2
    go_quiet (fail)
    go_wp2
    go_ret
    have hs := HS.out
    rw [hi] at hs
    refine ⟨_, _, rfl, ?_, ?_, upd_drewN (upd_set _ _ _ _) nq, by simp [World.setCell]⟩
    · simp [Bts]
    · have hs' : Rdr (w.setCell ⟨r, 2, none⟩ (.int .i64 (l.length : Int))) r g l (l.length + 0) 0 := by simpa using hs
      rw [hi]
      exact hs'.drewN nq
  · have hi2 : i < l.length := by omega
    go_enter Try.func74, Try.ntmps74
    go_wp2
    go_quiet (fail)
    go_wp2
    go_ret
    have e1 : i + n - i = n := by omega
    rw [e1]
    refine ⟨_, _, rfl, ?_, HS.out.drewN nq, upd_drewN (upd_set _ _ _ _) nq, by simp [World.setCell]⟩
    have hp := (HS.out.drewN nq).2.1.part (HS.out.drewN nq).2.1.lt i (i + n) (by omega) hn
    rwa [e1] at hp

/-- What 'Bytes' answers where nothing is wrong: new memory. -/
def BytesPost (w : World) (r g : Nat) (l : List UInt8) (i n : Nat) (e : Ending) (w' : World) : Prop :=
  ∃ b, e = .returned (.slice (some ⟨b, 0, none⟩) n n) ∧ w.heap.size ≤ b ∧ Own w' b ((l.drop i).take n) ∧ Rdr w' r g l (i + n) 0 ∧ w.grownBy w' (some r)

/-- What a call answers where something is wrong: nothing; the place stays. -/
def WrongPost (w : World) (r g : Nat) (l : List UInt8) (i : Nat) (err : Int) (v : Value) (e : Ending) (w' : World) : Prop :=
  e = .returned v ∧ Rdr w' r g l i err ∧ w.grownBy w' (some r)

theorem ready_no (h : Rdr w r g l i err) (n : Int) (ok : Bool) (hw : errOf err ok n ((l.length : Int) - (i : Int)) ≠ 0) :
    Calls Try.prog 73 #[.pointer (some ⟨r, 0, none⟩), .int .i64 n, .bool ok] w (ReadyPost w r g l i (errOf err ok n ((l.length : Int) - (i : Int))) false) := by
  unfold errOf at *
  by_cases he : err = 0
  · subst he
    cases ok with
    | false => simpa using ready_arg h n
    | true =>
      by_cases hn : (l.length : Int) - (i : Int) < n
      · simpa [hn] using ready_short h n hn
      · simp [hn] at hw
  · simpa [he] using ready_err h n ok he

end
end Go.Proofs.Ytocogdcecnnnnaa
