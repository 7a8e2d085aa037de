/-
  Slices of objects, and contracts of package object: isByte, valid, head. Conditions: head takes an object that may be.
-/
import Derived.Test.YtnmcfgoikffopaaObjM
import Derived.Test.YtnmcfgoikffopaaOctF
namespace Go.Proofs.Ytnmcfgoikffopaa
open Go.RowKit

/-- An object as it lies in memory, and the bytes that its body reads as. -/
structure Ob where
  cl : Int
  ty : Int
  a : Option Addr
  n : Nat
  c : Nat
  l : List UInt8
def Ob.val (q : Ob) : (Int × Int × List UInt8) := (q.cl, q.ty, q.l)
def vals (qs : List Ob) : List (Int × Int × List UInt8) := qs.map Ob.val
def eo (q : Ob) : List Value := [.int .i64 q.cl, .int .i64 q.ty, .slice q.a q.n q.c]
theorem eo_length (q : Ob) : (eo q).length = 3 := rfl
theorem eo_one (q : Ob) : ∀ u ∈ eo q, u.oneCell' = true := by
  intro u hu
  simp [eo] at hu
  rcases hu with rfl | rfl | rfl <;> rfl
theorem vals_length (qs : List Ob) : (vals qs).length = qs.length := by simp [vals]
theorem vals_append (a b : List Ob) : vals (a ++ b) = vals a ++ vals b := by simp [vals]
theorem vals_take (qs : List Ob) (j : Nat) : vals (qs.take j) = (vals qs).take j := by simp [vals]

/-- Bodies read as their bytes. -/
def Bods (w : World) (B : Nat) (qs : List Ob) : Prop := ∀ q ∈ qs, Bts w B q.a q.n q.l ∧ q.n ≤ maxLen
/-- The slice reads as the objects 'qs', and so do their bodies. -/
def Objs (w : World) (B : Nat) (a : Option Addr) (n : Nat) (qs : List Ob) : Prop := Row eo w B a n qs ∧ Bods w B qs

section
variable {w w' : World} {B n : Nat} {a : Option Addr} {qs : List Ob}
theorem Bods.keep (h : Bods w B qs) (hk : ∀ b, b < B → w'.heap[b]? = w.heap[b]?) : Bods w' B qs := fun q hq => ⟨(h q hq).1.keep hk, (h q hq).2⟩
theorem Bods.below (h : Bods w B qs) (hb : Below B w w') : Bods w' B qs := h.keep hb.block
theorem Bods.more (h : Bods w B qs) {B' : Nat} (hB : B ≤ B') : Bods w B' qs := fun q hq => ⟨(h q hq).1.more hB, (h q hq).2⟩
theorem Objs.nil : Objs w B a 0 [] := ⟨Row.nil, by intro q hq; cases hq⟩
theorem Objs.len (h : Objs w B a n qs) : qs.length = n := h.1.1
theorem Objs.below (h : Objs w B a n qs) (hb : Below B w w') : Objs w' B a n qs := ⟨h.1.below hb, h.2.below hb⟩
theorem Objs.more (h : Objs w B a n qs) {B' : Nat} (hB : B ≤ B') : Objs w B' a n qs := ⟨h.1.more hB, h.2.more hB⟩
theorem Objs.drewN (h : Objs w B a n qs) (m : Nat) : Objs (w.drewN m) B a n qs := h
theorem Objs.up (h : Objs w w.heap.size a n qs) (hb : Below w.heap.size w w') : Objs w' w'.heap.size a n qs := (h.below hb).more hb.size
/-- An object lies at this place. -/
def AtO (W : World) (b k : Nat) (q : Ob) : Prop := W.cell? ⟨b, k, none⟩ = some (.int .i64 q.cl) ∧ W.cell? ⟨b, k + 1, none⟩ = some (.int .i64 q.ty) ∧ W.cell? ⟨b, k + 2, none⟩ = some (.slice q.a q.n q.c)
theorem Objs.at (h : Objs w B a n qs) {i : Nat} (hi : i < n) : ∃ (b o : Nat) (q : Ob), a = some ⟨b, o, none⟩ ∧ b < B ∧ q ∈ qs ∧ qs[i]? = some q ∧ AtO w b (o + i * 3) q ∧ Bts w B q.a q.n q.l ∧ q.n ≤ maxLen := by
  obtain ⟨b, o, e, hb, hc⟩ := h.1.cells eo_length (by omega)
  have hi' : i < qs.length := by rw [h.1.1]; exact hi
  have hm := List.getElem_mem hi'
  exact ⟨b, o, qs[i], e, hb, hm, by simp [hi'], ⟨hc i hi' 0 (by omega), hc i hi' 1 (by omega), hc i hi' 2 (by omega)⟩, (h.2 _ hm).1, (h.2 _ hm).2⟩
theorem AtO.below {W W' : World} {b k : Nat} {q : Ob} (h : AtO W b k q) (hb : Below B W W') (hB : b < B) : AtO W' b k q :=
  ⟨(hb.cell (p := ⟨b, k, none⟩) hB).trans h.1, (hb.cell (p := ⟨b, k + 1, none⟩) hB).trans h.2.1, (hb.cell (p := ⟨b, k + 2, none⟩) hB).trans h.2.2⟩
end
theorem take_next {α : Type} (l : List α) (j : Nat) (q : α) (h : l[j]? = some q) : l.take (j + 1) = l.take j ++ [q] := by
  have hj : j < l.length := by
    rcases Nat.lt_or_ge j l.length with h' | h'
    · exact h'
    · rw [List.getElem?_eq_none h'] at h; cases h
  rw [List.getElem?_eq_getElem hj] at h
  injection h with h
  rw [List.take_succ_eq_append_getElem hj, h]

theorem isByte_calls (n : Int) (w : World) :
    Calls Try.prog 26 #[.int .i64 n] w fun e w' => e = .returned (.bool (isb n)) ∧ w = w' := by
  by_cases h1 : 0 ≤ n
  · by_cases h2 : n ≤ 255
    · have hw : isb n = true := by simp [isb, h1, h2]
      go_enter Try.func26, Try.ntmps26
      go_wp2
      go_ret
      exact ⟨by first | rfl | (rw [hw]; rfl), rfl⟩
    · have hw : isb n = false := by simp [isb, h2]
      go_enter Try.func26, Try.ntmps26
      go_wp2
      go_ret
      exact ⟨by first | rfl | (rw [hw]; rfl), rfl⟩
  · have hw : isb n = false := by simp [isb, h1]
    go_enter Try.func26, Try.ntmps26
    go_wp2
    go_ret
    exact ⟨by first | rfl | (rw [hw]; rfl), rfl⟩

theorem obvalid_calls (x y : Int) (a : Option Addr) (n c : Nat) (w : World) (hn : n ≤ maxLen) :
    Calls Try.prog 18 #[.agg #[.int .i64 x, .int .i64 y, .slice a n c]] w fun e w' => e = .returned (.bool (vld x y n)) ∧ w' = w.alloc (.cells #[.int .i64 x, .int .i64 y, .slice a n c] 44) := by
  unfold maxLen at hn
  go_enter Try.func18, Try.ntmps18
  go_wp2_with fail
  ((with_reducible refine (isByte_calls x _).mono ?_))
  rintro e w1 ⟨rfl, rfl⟩
  cases hx : isb x
  · go_wp2
    go_ret
    exact ⟨by simp [vld, hx], rfl⟩
  · go_wp2_with fail
    ((with_reducible refine (isByte_calls y _).mono ?_))
    rintro e w1 ⟨rfl, rfl⟩
    cases hy : isb y
    · go_wp2
      go_ret
      exact ⟨by simp [vld, hx, hy], rfl⟩
    · by_cases h4 : n % 4 = 0
      · have q1 : ((n : Int) % 4 == 0) = true := by rw [beq_iff_eq]; omega
        go_wp2
        go_ret
        exact ⟨by simp [vld, hx, hy, h4]; try omega, rfl⟩
      · have q1 : ((n : Int) % 4 == 0) = false := by rw [beq_eq_false_iff_ne]; omega
        go_wp2
        go_ret
        exact ⟨by simp [vld, hx, hy, h4], rfl⟩

theorem put_two (a : Option Addr) (n c : Nat) (l : List UInt8) (u : Int) (w : World) (h : Bts w w.heap.size a n l) (hlen : n ≤ 1099511627776) (hu : 0 ≤ u) (hb : u < 65536) :
    Calls Try.prog 25 #[.slice a n c, .int .i64 2, .int .u64 u] w fun e w' => e = .returned (.tuple #[.slice (some ⟨w.heap.size, 0, none⟩) (n + 2) (n + 2), .int .i64 0]) ∧ Own w' w.heap.size (l ++ dig 2 u.toNat) ∧ Below w.heap.size w w' := by
  have hl := h.1
  have hp : u.toNat < 256 ^ (2 : Int).toNat := by simp; omega
  refine (put_i a n c l 2 u w h (by omega) (by omega) (by omega) hu hp).mono ?_
  rintro e w' ⟨rfl, h2, h3⟩
  rw [hl]
  exact ⟨rfl, h2, h3⟩
theorem put_one (a : Option Addr) (n c : Nat) (l : List UInt8) (u : Int) (w : World) (h : Bts w w.heap.size a n l) (hlen : n ≤ 1099511627776) (hu : 0 ≤ u) (hb : u < 256) :
    Calls Try.prog 25 #[.slice a n c, .int .i64 1, .int .u64 u] w fun e w' => e = .returned (.tuple #[.slice (some ⟨w.heap.size, 0, none⟩) (n + 1) (n + 1), .int .i64 0]) ∧ Own w' w.heap.size (l ++ dig 1 u.toNat) ∧ Below w.heap.size w w' := by
  have hl := h.1
  have hp : u.toNat < 256 ^ (1 : Int).toNat := by simp; omega
  refine (put_i a n c l 1 u w h (by omega) (by omega) (by omega) hu hp).mono ?_
  rintro e w' ⟨rfl, h2, h3⟩
  rw [hl]
  exact ⟨rfl, h2, h3⟩

def HeadPost (w : World) (x y : Int) (n : Nat) (e : Ending) (w' : World) : Prop :=
  ∃ g, e = .returned (.slice (some ⟨g, 0, none⟩) 4 4) ∧ w.heap.size ≤ g ∧ Own w' g (hdL x y n) ∧ Below w.heap.size w w'

theorem head_calls (x y : Int) (a : Option Addr) (n c : Nat) (w : World) (hv : vld x y n = true) :
    Calls Try.prog 17 #[.agg #[.int .i64 x, .int .i64 y, .slice a n c]] w (HeadPost w x y n) := by
  obtain ⟨x0, x1, y0, y1, _, n1⟩ := vld_yes hv
  have c0 : AtO (w.alloc (.cells #[.int .i64 x, .int .i64 y, .slice a n c] 44)) w.heap.size 0 ⟨x, y, a, n, c, []⟩ :=
    ⟨cell_of_row _ _ _ _ _ _ (heap_alloc_new w _), cell_of_row _ _ _ _ _ _ (heap_alloc_new w _), cell_of_row _ _ _ _ _ _ (heap_alloc_new w _)⟩
  have C0 := Lib.hid c0
  have K0 := Lib.hid (bel_new (Below.refl w.heap.size w) (.cells #[.int .i64 x, .int .i64 y, .slice a n c] 44))
  have Z0 := Lib.hid (show w.heap.size < (w.alloc (.cells #[.int .i64 x, .int .i64 y, .slice a n c] 44)).heap.size by simp)
  clear c0 hv
  go_enter Try.func17, Try.ntmps17
  go_wp2_with fail
  generalize (w.alloc (.cells #[.int .i64 x, .int .i64 y, .slice a n c] 44)) = w1 at *
  ((with_reducible refine (put_two none 0 0 [] (4 + (n : Int)) _ Bts.nil (by omega) (by omega) (by omega)).mono ?_))
  rintro e w2 ⟨rfl, o2, b2⟩
  have C2 := Lib.hid (C0.out.below b2 Z0.out)
  have c2 := C2.out.1
  have O2 := Lib.hid (o2.bts o2.lt)
  have K2 := Lib.hid (bel_more K0.out (Nat.le_refl _) b2)
  have Z2 := Lib.hid (Nat.lt_of_lt_of_le Z0.out b2.size)
  clear o2 b2
  go_wp2_with fail
  ((with_reducible refine (put_one _ 2 2 _ x _ O2.out (by omega) (by omega) (by omega)).mono ?_))
  rintro e w3 ⟨rfl, o3, b3⟩
  have C3 := Lib.hid (C2.out.below b3 Z2.out)
  have c3 := C3.out.2.1
  have O3 := Lib.hid (o3.bts o3.lt)
  have K3 := Lib.hid (bel_more K2.out (Nat.le_refl _) b3)
  have Z3 := Lib.hid (Nat.lt_of_lt_of_le Z2.out b3.size)
  clear o3 b3 c2
  go_wp2_with fail
  ((with_reducible refine (put_one _ 3 3 _ y _ O3.out (by omega) (by omega) (by omega)).mono ?_))
  rintro e w4 ⟨rfl, o4, b4⟩
  have K4 := Lib.hid (bel_more K3.out (Nat.le_refl _) b4)
  have O4 := Lib.hid o4
  clear o4 b4 c3
  go_wp2
  go_ret
  refine ⟨w3.heap.size, rfl, Nat.le_of_lt Z3.out, ?_, K4.out⟩
  have e1 : (4 + (n : Int)).toNat = 4 + n := by omega
  have h := O4.out
  rw [e1] at h
  exact h
end Go.Proofs.Ytnmcfgoikffopaa
