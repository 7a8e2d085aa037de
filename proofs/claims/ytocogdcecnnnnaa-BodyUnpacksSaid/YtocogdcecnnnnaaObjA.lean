/-
  Slices of objects, and contracts of package object: isByte, valid, head. Conditions: head takes an object that may be.
-/
import Derived.Test.YtocogdcecnnnnaaObjM
import Derived.Test.YtocogdcecnnnnaaOctF
namespace Go.Proofs.Ytocogdcecnnnnaa
open Go.RowKit

/-- An object as it lies in memory, and the bytes that its body reads as. -/
structure Ob where
  cl : Int
  ty : Int
  a : Option Addr
  n : Nat
  c : Nat
  l : List UInt8
def Ob.val (q : Ob) : (Int × Int × List UInt8) := (q.cl, q.ty, q.l)
def vals (qs : List Ob) : List (Int × Int × List UInt8) := qs.map Ob.val
def eo (q : Ob) : List Value := [.int .i64 q.cl, .int .i64 q.ty, .slice q.a q.n q.c]
theorem eo_length (q : Ob) : (eo q).length = 3 := rfl
theorem eo_one (q : Ob) : ∀ u ∈ eo q, u.oneCell' = true := by
  intro u hu
  simp [eo] at hu
  rcases hu with rfl | rfl | rfl <;> rfl
theorem vals_length (qs : List Ob) : (vals qs).length = qs.length := by simp [vals]
theorem vals_append (a b : List Ob) : vals (a ++ b) = vals a ++ vals b := by simp [vals]
theorem vals_take (qs : List Ob) (j : Nat) : vals (qs.take j) = (vals qs).take j := by simp [vals]

/-- Bodies read as their bytes. -/
def Bods (w : World) (B : Nat) (qs : List Ob) : Prop := ∀ q ∈ qs, Bts w B q.a q.n q.l ∧ q.n ≤ maxLen
/-- The slice reads as the objects 'qs', and so do their bodies. -/
def Objs (w : World) (B : Nat) (a : Option Addr) (n : Nat) (qs : List Ob) : Prop := Row eo w B a n qs ∧ Bods w B qs

section
variable {w w' : World} {B n : Nat} {a : Option Addr} {qs : List Ob}
theorem Bods.keep (h : Bods w B qs) (hk : ∀ b, b < B → w'.heap[b]? = w.heap[b]?) : Bods w' B qs := fun q hq => ⟨(h q hq).1.keep hk, (h q hq).2⟩
theorem Bods.below (h : Bods w B qs) (hb : Below B w w') : Bods w' B qs := h.keep hb.block
theorem Bods.more (h : Bods w B qs) {B' : Nat} (hB : B ≤ B') : Bods w B' qs := fun q hq => ⟨(h q hq).1.more hB, (h q hq).2⟩
theorem Objs.nil : Objs w B a 0 [] := ⟨Row.nil, by intro q hq; cases hq⟩
theorem Objs.len (h : Objs w B a n qs) : qs.length = n := h.1.1
theorem Objs.below (h : Objs w B a n qs) (hb : Below B w w') : Objs w' B a n qs := ⟨h.1.below hb, h.2.below hb⟩
theorem Objs.more (h : Objs w B a n qs) {B' : Nat} (hB : B ≤ B') : Objs w B' a n qs := ⟨h.1.more hB, h.2.more hB⟩
theorem Objs.drewN (h : Objs w B a n qs) (m : Nat) : Objs (w.drewN m) B a n qs := h
theorem Objs.up (h : Objs w w.heap.size a n qs) (hb : Below w.heap.size w w') : Objs w' w'.heap.size a n qs := (h.below hb).more hb.size
/-- An object lies at this place. -/
def AtO (W : World) (b k : Nat) (q : Ob) : Prop := W.cell? ⟨b, k, none⟩ = some (.int .i64 q.cl) ∧ W.cell? ⟨b, k + 1, none⟩ = some (.int .i64 q.ty) ∧ W.cell? ⟨b, k + 2, none⟩ = some (.slice q.a q.n q.c)
theorem Objs.at (h : Objs w B a n qs) {i : Nat} (hi : i < n) : ∃ (b o : Nat) (q : Ob), a = some ⟨b, o, none⟩ ∧ b < B ∧ q ∈ qs ∧ qs[i]? = some q ∧ AtO w b (o + i * 3) q ∧ Bts w B q.a q.n q.l ∧ q.n ≤ maxLen := by
  obtain ⟨b, o, e, hb, hc⟩ := h.1.cells eo_length (by omega)
  have hi' : i < qs.length := by rw [h.1.1]; exact hi
  have hm := List.getElem_mem hi'
  exact ⟨b, o, qs[i], e, hb, hm, by simp [hi'], ⟨hc i hi' 0 (by omega), hc i hi' 1 (by omega), hc i hi' 2 (by omega)⟩, (h.2 _ hm).1, (h.2 _ hm).2⟩
theorem AtO.below {W W' : World} {b k : Nat} {q : Ob} (h : AtO W b k q) (hb : Below B W W') (hB : b < B) : AtO W' b k q :=
  ⟨(hb.cell (p := ⟨b, k, none⟩) hB).trans h.1, (hb.cell (p := ⟨b, k + 1, none⟩) hB).trans h.2.1, (hb.cell (p := ⟨b, k + 2, none⟩) hB).trans h.2.2⟩
end
theorem take_next {α : Type} (l : List α) (j : Nat) (q : α) (h : l[j]? = some q) : l.take (j + 1) = l.take j ++ [q] := by
  have hj : j < l.length := by
    rcases Nat.lt_or_ge j l.length with h' | h'
    · exact h'
    · rw [List.getElem?_eq_none h'] at h; cases h
  rw [List.getElem?_eq_getElem hj] at h
  injection h with h
  rw [List.take_succ_eq_append_getElem hj, h]

theorem put_two (a : Option Addr) (n c : Nat) (l : List UInt8) (u : Int) (w : World) (h : Bts w w.heap.size a n l) (hlen : n ≤ 1099511627776) (hu : 0 ≤ u) (hb : u < 65536) :
    Calls Try.prog 68 #[.slice a n c, .int .i64 2, .int .u64 u] w fun e w' => e = .returned (.tuple #[.slice (some ⟨w.heap.size, 0, none⟩) (n + 2) (n + 2), .int .i64 0]) ∧ Own w' w.heap.size (l ++ dig 2 u.toNat) ∧ Below w.heap.size w w' := by
  have hl := h.1
  have hp : u.toNat < 256 ^ (2 : Int).toNat := by simp; omega
  refine (put_i a n c l 2 u w h (by omega) (by omega) (by omega) hu hp).mono ?_
  rintro e w' ⟨rfl, h2, h3⟩
  rw [hl]
  exact ⟨rfl, h2, h3⟩
theorem put_one (a : Option Addr) (n c : Nat) (l : List UInt8) (u : Int) (w : World) (h : Bts w w.heap.size a n l) (hlen : n ≤ 1099511627776) (hu : 0 ≤ u) (hb : u < 256) :
    Calls Try.prog 68 #[.slice a n c, .int .i64 1, .int .u64 u] w fun e w' => e = .returned (.tuple #[.slice (some ⟨w.heap.size, 0, none⟩) (n + 1) (n + 1), .int .i64 0]) ∧ Own w' w.heap.size (l ++ dig 1 u.toNat) ∧ Below w.heap.size w w' := by
  have hl := h.1
  have hp : u.toNat < 256 ^ (1 : Int).toNat := by simp; omega
  refine (put_i a n c l 1 u w h (by omega) (by omega) (by omega) hu hp).mono ?_
  rintro e w' ⟨rfl, h2, h3⟩
  rw [hl]
  exact ⟨rfl, h2, h3⟩

def HeadPost (w : World) (x y : Int) (n : Nat) (e : Ending) (w' : World) : Prop :=
  ∃ g, e = .returned (.slice (some ⟨g, 0, none⟩) 4 4) ∧ w.heap.size ≤ g ∧ Own w' g (hdL x y n) ∧ Below w.heap.size w w'

end Go.Proofs.Ytocogdcecnnnnaa
