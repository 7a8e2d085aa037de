/-
  Contracts of object.read and object.Decode. Conditions: the reader is one that New made; the bytes that come in read as a list.
-/
import Derived.Test.YtocogdcecnnnnaaObjA
import Derived.Test.YtocogdcecnnnnaaBlk
namespace Go.Proofs.Ytocogdcecnnnnaa
open Go.RowKit

section
variable {w : World} {r g i : Nat} {l : List UInt8}
theorem uint_two (h : Rdr w r g l i 0) (hn : i + 2 ≤ l.length) :
    Calls Try.prog 72 #[.pointer (some ⟨r, 0, none⟩), .int .i64 2] w fun e w' => e = .returned (.int .u64 ((num ((l.drop i).take 2) : Nat) : Int)) ∧ Rdr w' r g l (i + 2) 0 ∧ w.grownBy w' (some r) :=
  uint_ok h 2 (by omega) (by omega) hn
theorem uint_one (h : Rdr w r g l i 0) (hn : i + 1 ≤ l.length) :
    Calls Try.prog 72 #[.pointer (some ⟨r, 0, none⟩), .int .i64 1] w fun e w' => e = .returned (.int .u64 ((num ((l.drop i).take 1) : Nat) : Int)) ∧ Rdr w' r g l (i + 1) 0 ∧ w.grownBy w' (some r) :=
  uint_ok h 1 (by omega) (by omega) hn
end

theorem uErr_stay (l : List UInt8) (p : Nat) : uErr l p 4 1 = 4 := by unfold uErr errOf; rw [if_neg (by omega)]
theorem uErr_lack (l : List UInt8) (p : Nat) (n : Int) (hw : wid n = true) (h : (l.length : Int) - (p : Int) < n) : uErr l p 0 n = 4 := by
  unfold uErr errOf; rw [if_pos rfl, hw, if_pos rfl, if_pos h]
theorem uErr_have (l : List UInt8) (p : Nat) (n : Int) (hw : wid n = true) (h : n ≤ (l.length : Int) - (p : Int)) : uErr l p 0 n = 0 := by
  unfold uErr errOf; rw [if_pos rfl, hw, if_pos rfl, if_neg (by omega)]
theorem short_err (l : List UInt8) (i : Nat) (h : l.length < i + 4) :
    uErr l (uPos l (uPos l i 0 2) (uErr l i 0 2) 1) (uErr l (uPos l i 0 2) (uErr l i 0 2) 1) 1 = 4 := by
  have w2 : wid 2 = true := by decide
  have w1 : wid 1 = true := by decide
  by_cases h2 : l.length < i + 2
  · rw [uErr_lack l i 2 w2 (by omega), uErr_stay, uErr_stay]
  · have e1 := uErr_have l i 2 w2 (by omega)
    have p1 : uPos l i 0 2 = i + 2 := by unfold uPos; rw [if_pos e1]; rfl
    rw [e1, p1]
    by_cases h3 : l.length < i + 3
    · rw [uErr_lack l (i + 2) 1 w1 (by omega), uErr_stay]
    · have e2 := uErr_have l (i + 2) 1 w1 (by omega)
      have p2 : uPos l (i + 2) 0 1 = i + 3 := by unfold uPos; rw [if_pos e2]; rfl
      rw [e2, p2, uErr_lack l (i + 3) 1 w1 (by omega)]

theorem Blk.grown {w w' : World} {q r : Nat} {T : TypeId} {vs : List Value} (h : Blk w q T vs) (hg : w.grownBy w' (some r)) (hne : q ≠ r) : Blk w' q T vs :=
  h.same (hg.block q h.lt (fun e => hne (by injection e)))
theorem Blk.set3o {w : World} {q : Nat} {T : TypeId} {u0 u1 u2 : Value} (h : Blk w q T [u0, u1, u2]) (v0 v1 v2 : Value) : Blk (((w.setCell ⟨q, 0, none⟩ v0).setCell ⟨q, 1, none⟩ v1).setCell ⟨q, 2, none⟩ v2) q T [v0, v1, v2] := ((h.set 0 v0).set 1 v1).set 2 v2
theorem block_set3 (w : World) {q k : Nat} (h : k ≠ q) (v0 v1 v2 : Value) : (((w.setCell ⟨q, 0, none⟩ v0).setCell ⟨q, 1, none⟩ v1).setCell ⟨q, 2, none⟩ v2).heap[k]? = w.heap[k]? := by
  rw [Below.heap_setCell _ _ _ _ h, Below.heap_setCell _ _ _ _ h, Below.heap_setCell _ _ _ _ h]
theorem upd_set3 {a w : World} {row : Option Nat} {q : Nat} (h : a.grownBy w row) (hq : a.heap.size ≤ q) (v0 v1 v2 : Value) : a.grownBy (((w.setCell ⟨q, 0, none⟩ v0).setCell ⟨q, 1, none⟩ v1).setCell ⟨q, 2, none⟩ v2) row :=
  ⟨h.os, h.tape, h.output, by simp [World.setCell]; exact h.size, fun k hk hne => (block_set3 w (by omega) v0 v1 v2).trans (h.block k hk hne)⟩
theorem Rdr.set3 {w : World} {r g i q : Nat} {l : List UInt8} {err : Int} (h : Rdr w r g l i err) (hr : r ≠ q) (hg : g ≠ q) (v0 v1 v2 : Value) : Rdr (((w.setCell ⟨q, 0, none⟩ v0).setCell ⟨q, 1, none⟩ v1).setCell ⟨q, 2, none⟩ v2) r g l i err :=
  h.same (block_set3 w hr v0 v1 v2) (block_set3 w hg v0 v1 v2)

/-- What 'read' answers where something is wrong. -/
def ReadNo (w : World) (r : Nat) (err : Int) (e : Ending) (w' : World) : Prop :=
  e = .returned (.tuple #[.agg #[.int .i64 0, .int .i64 0, .slice none 0 0], .int .i64 err]) ∧ w.grownBy w' (some r)
/-- What it answers where nothing is: an object whose bytes lie in new memory. -/
def ReadOk (w : World) (r g : Nat) (l : List UInt8) (i : Nat) (x y : Int) (M : Nat) (e : Ending) (w' : World) : Prop :=
  ∃ gb, e = .returned (.tuple #[.agg #[.int .i64 x, .int .i64 y, .slice (some ⟨gb, 0, none⟩) (M - 4) (M - 4)], .int .i64 0]) ∧ w.heap.size ≤ gb ∧ Own w' gb ((l.drop (i + 4)).take (M - 4)) ∧ Rdr w' r g l (i + M) 0 ∧ w.grownBy w' (some r)

section
variable {w : World} {r g i : Nat} {l : List UInt8}

end
end Go.Proofs.Ytocogdcecnnnnaa
