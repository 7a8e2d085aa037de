/-
  How much of a link is held, plain: ledgers as lists of eight numbers; what is free; more held at a priority, or less. No condition.
  The document's answers of layer 13 (viaductref13): Add, upto, Sum, Right. Condition: numbers of 64 bits, eight priorities.
  The document's answers of layer 13 (viaductref13): Put, Take. Condition: numbers of 64 bits, eight priorities.
  Ledgers from the document's type to the code's and back; ledgers and eight numbers are compared. Condition: numbers of 64 bits, eight priorities.
  What the code of layer 13 (ledger) must keep, and what the laws ask first of all, under that. Condition: as its theorems say.
  What the code of layer 13 (ledger) keeps: Add, total, Sum, Right, may, Free, Put, Take. Condition: numbers of 64 bits, eight priorities.
-/
import Derived.Test.YtogijfebfffobaaBase
import Derived.Deep.CutBlock
namespace Go.Proofs.Ytogijfebfffobaa
set_option maxRecDepth 100000

/-- How much there is, and how much is held at each priority. -/
structure Lg where
  cap : Nat
  held : List Nat
/-- Eight numbers of 64 bits, and one more. -/
def LgOk (l : Lg) : Prop := l.held.length = 8 ∧ l.cap < 18446744073709551616 ∧ ∀ n ∈ l.held, n < 18446744073709551616
/-- Nothing. -/
def lz : Lg := ⟨0, [0, 0, 0, 0, 0, 0, 0, 0]⟩
theorem lz_ok : LgOk lz := ⟨rfl, by decide, by decide⟩
/-- What the first p priorities hold. -/
def psum (h : List Nat) (p : Nat) : Nat := (h.take p).sum
def lRight (l : Lg) : Bool := decide (l.held.sum ≤ l.cap)
def lFree (l : Lg) : List Nat := (List.range 8).map fun p => l.cap - psum l.held (p + 1)
/-- More is held at a priority. -/
def lPut (l : Lg) (p : Int) (b : Nat) : Lg × Int :=
  if (0 ≤ p ∧ p ≤ 7) ∧ lRight l = true then (if l.held.sum + b ≤ l.cap then (⟨l.cap, l.held.set p.toNat (l.held.getD p.toNat 0 + b)⟩, 0) else (lz, 14)) else (lz, 2)
/-- Less is held at it. -/
def lTake (l : Lg) (p : Int) (b : Nat) : Lg × Int :=
  if (0 ≤ p ∧ p ≤ 7) ∧ lRight l = true then (if l.held.getD p.toNat 0 < b then (lz, 8) else (⟨l.cap, l.held.set p.toNat (l.held.getD p.toNat 0 - b)⟩, 0)) else (lz, 2)

theorem psum_zero (h : List Nat) : psum h 0 = 0 := rfl
theorem psum_succ {h : List Nat} {i : Nat} (hi : i < h.length) : psum h (i + 1) = psum h i + h.getD i 0 := by
  unfold psum
  rw [List.take_add_one, List.getElem?_eq_getElem hi, List.getD_eq_getElem?_getD, List.getElem?_eq_getElem hi, Option.toList_some, List.sum_append]
  rfl
theorem psum_all {h : List Nat} {n : Nat} (hn : h.length ≤ n) : psum h n = h.sum := by unfold psum; rw [List.take_of_length_le hn]
theorem psum_le (h : List Nat) {i j : Nat} (hij : i ≤ j) : psum h i ≤ psum h j := by
  unfold psum
  rw [← Nat.add_sub_cancel' hij, List.take_add]
  simp
theorem psum_le_sum (h : List Nat) (i : Nat) : psum h i ≤ h.sum := by
  have := psum_le h (Nat.le_max_left i h.length)
  rwa [psum_all (Nat.le_max_right i h.length)] at this
theorem sum_set {h : List Nat} {p : Nat} (hp : p < h.length) (v : Nat) : (h.set p v).sum + h.getD p 0 = h.sum + v := by
  induction h generalizing p with
  | nil => simp at hp
  | cons x t ih =>
    cases p with
    | zero => simp; omega
    | succ p =>
      have := ih (p := p) (by simpa using hp)
      simp only [List.set_cons_succ, List.sum_cons, List.getD_cons_succ]
      omega
theorem getD_le_sum (h : List Nat) (p : Nat) : h.getD p 0 ≤ h.sum := by
  induction h generalizing p with
  | nil => simp
  | cons x t ih =>
    cases p with
    | zero => simp
    | succ p =>
      have := ih p
      simp only [List.getD_cons_succ, List.sum_cons]
      omega
theorem psum_set_lt {h : List Nat} {p i : Nat} (hi : i ≤ p) (v : Nat) : psum (h.set p v) i = psum h i := by
  unfold psum
  rw [List.take_set_of_le hi]
theorem psum_set_ge {h : List Nat} {p i : Nat} (hp : p < h.length) (hi : p < i) (v : Nat) : psum (h.set p v) i + h.getD p 0 = psum h i + v := by
  unfold psum
  rw [List.take_set]
  have h2 : h.getD p 0 = (h.take i).getD p 0 := by
    rw [List.getD_eq_getElem?_getD, List.getD_eq_getElem?_getD, List.getElem?_take_of_lt hi]
  rw [h2]
  exact sum_set (by rw [List.length_take]; omega) v
theorem getD_lt_ok {l : Lg} (h : LgOk l) (p : Nat) : l.held.getD p 0 < 18446744073709551616 := by
  rw [List.getD_eq_getElem?_getD]
  cases e : l.held[p]? with
  | none => simp
  | some x => exact h.2.2 x (List.mem_of_getElem? e)

theorem set_ok {l : Lg} (h : LgOk l) (p v : Nat) (hv : v < 18446744073709551616) : LgOk ⟨l.cap, l.held.set p v⟩ := by
  refine ⟨by rw [List.length_set]; exact h.1, h.2.1, fun n hn => ?_⟩
  rcases List.mem_or_eq_of_mem_set hn with h1 | h1
  · exact h.2.2 n h1
  · rw [h1]; exact hv
theorem lPut_ok {l : Lg} (h : LgOk l) (p : Int) (b : Nat) : LgOk (lPut l p b).1 := by
  unfold lPut
  split
  · split
    · rename_i h1
      have := getD_le_sum l.held p.toNat
      have := h.2.1
      exact set_ok h _ _ (by omega)
    · exact lz_ok
  · exact lz_ok
theorem lTake_ok {l : Lg} (h : LgOk l) (p : Int) (b : Nat) : LgOk (lTake l p b).1 := by
  unfold lTake
  split
  · split
    · exact lz_ok
    · have := getD_lt_ok h p.toNat
      exact set_ok h _ _ (by omega)
  · exact lz_ok

/-- The answer of a call that is right. -/
theorem lPut_zero {l : Lg} {p : Int} {b : Nat} (h : (lPut l p b).2 = 0) : (0 ≤ p ∧ p ≤ 7) ∧ lRight l = true ∧ l.held.sum + b ≤ l.cap ∧ (lPut l p b).1 = ⟨l.cap, l.held.set p.toNat (l.held.getD p.toNat 0 + b)⟩ := by
  unfold lPut at h ⊢
  split at h
  · rename_i h1
    split at h
    · rename_i h2
      rw [if_pos h1, if_pos h2]
      exact ⟨h1.1, h1.2, h2, rfl⟩
    · exact absurd h (by decide)
  · exact absurd h (by decide)
theorem lPut_bad {l : Lg} {p : Int} {b : Nat} (h : (lPut l p b).2 ≠ 0) : (lPut l p b).1 = lz := by
  unfold lPut at h ⊢
  split
  · rename_i h1
    rw [if_pos h1] at h
    split
    · rename_i h2
      rw [if_pos h2] at h
      exact absurd rfl h
    · rfl
  · rfl
theorem lTake_zero {l : Lg} {p : Int} {b : Nat} (h : (lTake l p b).2 = 0) : (0 ≤ p ∧ p ≤ 7) ∧ lRight l = true ∧ b ≤ l.held.getD p.toNat 0 ∧ (lTake l p b).1 = ⟨l.cap, l.held.set p.toNat (l.held.getD p.toNat 0 - b)⟩ := by
  unfold lTake at h ⊢
  split at h
  · rename_i h1
    split at h
    · exact absurd h (by decide)
    · rename_i h2
      rw [if_pos h1, if_neg h2]
      exact ⟨h1.1, h1.2, by omega, rfl⟩
  · exact absurd h (by decide)
/-- What was put is taken again. -/
theorem put_take {l : Lg} (hl : LgOk l) {p : Int} {b : Nat} (h : (lPut l p b).2 = 0) : lTake (lPut l p b).1 p b = (l, 0) := by
  obtain ⟨h1, h2, h3, h4⟩ := lPut_zero h
  have hp : p.toNat < l.held.length := by rw [hl.1]; omega
  have hs := sum_set hp (l.held.getD p.toNat 0 + b)
  rw [h4]
  unfold lTake
  have hg : (l.held.set p.toNat (l.held.getD p.toNat 0 + b)).getD p.toNat 0 = l.held.getD p.toNat 0 + b := by
    rw [List.getD_eq_getElem?_getD, List.getElem?_set_self hp]; rfl
  simp only [hg]
  rw [if_pos ⟨h1, decide_eq_true (by simp only; omega)⟩, if_neg (by omega), List.set_set, Nat.add_sub_cancel]
  have he : l.held.set p.toNat (l.held.getD p.toNat 0) = l.held := by
    rw [List.getD_eq_getElem?_getD, List.getElem?_eq_getElem hp, Option.getD_some, List.set_getElem_self]
  rw [he]
theorem put_right {l : Lg} (hl : LgOk l) {p : Int} {b : Nat} (h : (lPut l p b).2 = 0) : (lPut l p b).1.held.sum = l.held.sum + b ∧ (lPut l p b).1.cap = l.cap ∧ lRight (lPut l p b).1 = true := by
  obtain ⟨h1, h2, h3, h4⟩ := lPut_zero h
  have hp : p.toNat < l.held.length := by rw [hl.1]; omega
  have hs := sum_set hp (l.held.getD p.toNat 0 + b)
  rw [h4]
  refine ⟨by simp only; omega, rfl, decide_eq_true (by simp only; omega)⟩
theorem take_right {l : Lg} (hl : LgOk l) {p : Int} {b : Nat} (h : (lTake l p b).2 = 0) : (lTake l p b).1.held.sum + b = l.held.sum ∧ (lTake l p b).1.cap = l.cap ∧ lRight (lTake l p b).1 = true := by
  obtain ⟨h1, h2, h3, h4⟩ := lTake_zero h
  have hp : p.toNat < l.held.length := by rw [hl.1]; omega
  have hs := sum_set hp (l.held.getD p.toNat 0 - b)
  have h5 : l.held.sum ≤ l.cap := of_decide_eq_true h2
  rw [h4]
  refine ⟨by simp only; omega, rfl, decide_eq_true (by simp only; omega)⟩

theorem lFree_length (l : Lg) : (lFree l).length = 8 := by unfold lFree; simp
theorem lFree_get (l : Lg) {p : Nat} (hp : p < 8) : (lFree l).getD p 0 = l.cap - psum l.held (p + 1) := by
  unfold lFree
  rw [List.getD_eq_getElem?_getD, List.getElem?_map, List.getElem?_range hp]; rfl
theorem lFree_le (l : Lg) {p : Nat} (hp : p + 1 < 8) : (lFree l).getD (p + 1) 0 ≤ (lFree l).getD p 0 := by
  rw [lFree_get l hp, lFree_get l (by omega)]
  have := psum_le l.held (show p + 1 ≤ p + 1 + 1 by omega)
  omega
theorem lFree_last {l : Lg} (hl : LgOk l) : (lFree l).getD 7 0 = l.cap - l.held.sum := by
  rw [lFree_get l (by omega), psum_all (by rw [hl.1]; exact Nat.le_refl _)]
theorem lFree_bound (l : Lg) (p : Nat) : (lFree l).getD p 0 ≤ l.cap := by
  by_cases hp : p < 8
  · rw [lFree_get l hp]; omega
  · rw [List.getD_eq_getElem?_getD, List.getElem?_eq_none (by rw [lFree_length]; omega)]; simp
/-- What is free behind a call of Put. -/
theorem free_put {l : Lg} (hl : LgOk l) {p : Int} {b : Nat} (h : (lPut l p b).2 = 0) {i : Nat} (hi : i < 8) :
    (lFree (lPut l p b).1).getD i 0 = if (i : Int) < p then (lFree l).getD i 0 else (lFree l).getD i 0 - b := by
  obtain ⟨h1, h2, h3, h4⟩ := lPut_zero h
  have hp : p.toNat < l.held.length := by rw [hl.1]; omega
  rw [h4, lFree_get _ hi, lFree_get _ hi]
  split
  · rename_i h5
    rw [psum_set_lt (by omega)]
  · rename_i h5
    have := psum_set_ge hp (i := i + 1) (by omega) (l.held.getD p.toNat 0 + b)
    simp only
    omega
theorem free_ge {l : Lg} {p : Int} {b : Nat} (h : (lPut l p b).2 = 0) {i : Nat} (hi : i < 8) : b ≤ (lFree l).getD i 0 := by
  obtain ⟨h1, h2, h3, h4⟩ := lPut_zero h
  rw [lFree_get _ hi]
  have := psum_le_sum l.held (i + 1)
  omega
/-- Two that are put, in either order. -/
theorem put_either {l : Lg} (hl : LgOk l) (p q : Int) (a b : Nat) :
    ((lPut l p a).2 = 0 ∧ (lPut (lPut l p a).1 q b).2 = 0) ↔ ((lPut l q b).2 = 0 ∧ (lPut (lPut l q b).1 p a).2 = 0) := by
  have key : ∀ (p q : Int) (a b : Nat), ((lPut l p a).2 = 0 ∧ (lPut (lPut l p a).1 q b).2 = 0) ↔ ((0 ≤ p ∧ p ≤ 7) ∧ (0 ≤ q ∧ q ≤ 7) ∧ l.held.sum + a + b ≤ l.cap) := by
    intro p q a b
    constructor
    · rintro ⟨h1, h2⟩
      obtain ⟨g1, g2, g3, g4⟩ := lPut_zero h1
      obtain ⟨k1, k2, k3, _⟩ := lPut_zero h2
      obtain ⟨e1, e2, _⟩ := put_right hl h1
      rw [e1, e2] at k3
      exact ⟨g1, k1, k3⟩
    · rintro ⟨h1, h2, h3⟩
      have r1 : (lPut l p a).2 = 0 := by unfold lPut; rw [if_pos ⟨h1, decide_eq_true (by omega)⟩, if_pos (by omega)]
      obtain ⟨e1, e2, e3⟩ := put_right hl r1
      refine ⟨r1, ?_⟩
      show (lPut (lPut l p a).1 q b).2 = 0
      generalize (lPut l p a).1 = m at e1 e2 e3
      unfold lPut
      rw [if_pos ⟨h2, e3⟩, if_pos (by omega)]
  rw [key p q a b, key q p b a]
  constructor <;> (rintro ⟨h1, h2, h3⟩; exact ⟨h2, h1, by omega⟩)
theorem put_swap {l : Lg} (hl : LgOk l) {p q : Int} {a b : Nat} (h1 : (lPut l p a).2 = 0) (h2 : (lPut (lPut l p a).1 q b).2 = 0) : (lPut (lPut l p a).1 q b).1 = (lPut (lPut l q b).1 p a).1 := by
  obtain ⟨k1, k2⟩ := (put_either hl p q a b).1 ⟨h1, h2⟩
  obtain ⟨g1, _, _, g4⟩ := lPut_zero h1
  obtain ⟨n1, _, _, n4⟩ := lPut_zero h2
  obtain ⟨m1, _, _, m4⟩ := lPut_zero k1
  obtain ⟨_, _, _, o4⟩ := lPut_zero k2
  rw [n4, o4, g4, m4]
  simp only [Lg.mk.injEq, true_and]
  have hp : p.toNat < l.held.length := by rw [hl.1]; omega
  have hq : q.toNat < l.held.length := by rw [hl.1]; omega
  refine List.ext_getElem? fun i => ?_
  simp only [List.getElem?_set, List.length_set, List.getD_eq_getElem?_getD]
  by_cases e1 : q.toNat = p.toNat
  · rw [e1]
    by_cases e2 : p.toNat = i
    · subst e2
      simp [hp]; omega
    · simp [e2]
  · by_cases e2 : q.toNat = i
    · subst e2
      simp [hq, Ne.symm e1]
    · by_cases e3 : p.toNat = i
      · subst e3
        simp [hp, e1]
      · simp [e2, e3]
end Go.Proofs.Ytogijfebfffobaa

namespace Go.Proofs.Ytogijfebfffobaa
set_option maxRecDepth 100000
set_option linter.unusedVariables false
open Go.RowKit

/-- The cells of a ledger. -/
def lgc (l : Lg) : List Value := .int .u64 (l.cap : Int) :: l.held.map (fun n => .int .u64 ((n : Nat) : Int))
theorem lgc_length {l : Lg} (h : LgOk l) : (lgc l).length = 9 := by unfold lgc; simp [h.1]
theorem lgc_cap (l : Lg) : (lgc l)[0]? = some (.int .u64 (l.cap : Int)) := rfl
theorem lgc_held {l : Lg} (h : LgOk l) {i : Nat} (hi : i < 8) : (lgc l)[1 + i]? = some (.int .u64 ((l.held.getD i 0 : Nat) : Int)) := by
  unfold lgc
  rw [Nat.add_comm, List.getElem?_cons_succ, List.getElem?_map, List.getD_eq_getElem?_getD, List.getElem?_eq_getElem (by rw [h.1]; exact hi)]
  rfl
theorem lgc_set (l : Lg) (i v : Nat) : lgc ⟨l.cap, l.held.set i v⟩ = (lgc l).set (1 + i) (.int .u64 (v : Int)) := by
  unfold lgc
  rw [Nat.add_comm, List.set_cons_succ, List.map_set]

/-- A sum, and whether it is one. -/
def aS (n : Nat) : Nat := if n < 18446744073709551616 then n else 0
def Two13 (n : Nat) (w : World) (e : Ending) (w' : World) : Prop := e = .returned (.tuple #[.int .u64 ((aS n : Nat) : Int), .bool (decide (n < 18446744073709551616))]) ∧ Below w.heap.size w w'

/-- The cells of eight numbers. -/
def hlc (h : List Nat) : List Value := h.map (fun n => .int .u64 ((n : Nat) : Int))
theorem hlc_set (h : List Nat) (i v : Nat) : hlc (h.set i v) = (hlc h).set i (.int .u64 (v : Int)) := by unfold hlc; rw [List.map_set]
theorem hlc_length (h : List Nat) : (hlc h).length = h.length := by unfold hlc; simp
/-- Eight noughts. -/
def z8 : List Value := [.int .u64 0, .int .u64 0, .int .u64 0, .int .u64 0, .int .u64 0, .int .u64 0, .int .u64 0, .int .u64 0]
theorem hlc_one (h : List Nat) : ∀ u ∈ hlc h, u.oneCell' = true := by
  intro u hu
  unfold hlc at hu
  obtain ⟨n, _, rfl⟩ := List.mem_map.1 hu
  rfl
theorem lgc_one (l : Lg) : ∀ u ∈ lgc l, u.oneCell' = true := by
  intro u hu
  unfold lgc at hu
  rcases List.mem_cons.1 hu with rfl | hu
  · rfl
  · exact hlc_one l.held u hu
/-- Three blocks that were made one behind the other. -/
theorem alloc3 (w : World) (a b c : List Value) (T U V : TypeId) : Blk (((w.alloc (.cells a.toArray T)).alloc (.cells b.toArray U)).alloc (.cells c.toArray V)) w.heap.size T a ∧ Blk (((w.alloc (.cells a.toArray T)).alloc (.cells b.toArray U)).alloc (.cells c.toArray V)) (w.heap.size + 1) U b ∧
    Blk (((w.alloc (.cells a.toArray T)).alloc (.cells b.toArray U)).alloc (.cells c.toArray V)) (w.heap.size + 2) V c ∧ Below w.heap.size w (((w.alloc (.cells a.toArray T)).alloc (.cells b.toArray U)).alloc (.cells c.toArray V)) := by
  have s1 : (w.alloc (.cells a.toArray T)).heap.size = w.heap.size + 1 := Array.size_push _
  have s2 : ((w.alloc (.cells a.toArray T)).alloc (.cells b.toArray U)).heap.size = w.heap.size + 2 := (Array.size_push _).trans (by rw [s1])
  refine ⟨((Blk.new w T a).alloc _).alloc _, ?_, ?_, bel_new (bel_new (bel_new (Below.refl _ _) _) _) _⟩
  · have := (Blk.new (w.alloc (.cells a.toArray T)) U b).alloc (.cells c.toArray V)
    rwa [s1] at this
  · have := Blk.new ((w.alloc (.cells a.toArray T)).alloc (.cells b.toArray U)) V c
    rwa [s2] at this
theorem alloc2 (w : World) (a b : List Value) (T U : TypeId) : Blk ((w.alloc (.cells a.toArray T)).alloc (.cells b.toArray U)) w.heap.size T a ∧ Blk ((w.alloc (.cells a.toArray T)).alloc (.cells b.toArray U)) (w.heap.size + 1) U b ∧ Below w.heap.size w ((w.alloc (.cells a.toArray T)).alloc (.cells b.toArray U)) := by
  have s1 : (w.alloc (.cells a.toArray T)).heap.size = w.heap.size + 1 := Array.size_push _
  refine ⟨(Blk.new w T a).alloc _, ?_, bel_new (bel_new (Below.refl _ _) _) _⟩
  have := Blk.new (w.alloc (.cells a.toArray T)) U b
  rwa [s1] at this
/-- What is free, as far as it is told. -/
def frq (l : Lg) (i : Nat) : List Nat := (lFree l).take i ++ List.replicate (8 - i) 0
theorem frq_length (l : Lg) {i : Nat} (hi : i ≤ 8) : (frq l i).length = 8 := by unfold frq; simp [lFree_length]; omega
theorem frq_all (l : Lg) : frq l 8 = lFree l := by unfold frq; rw [List.take_of_length_le (by rw [lFree_length]; exact Nat.le_refl _)]; simp
theorem frq_next (l : Lg) {i : Nat} (hi : i < 8) : frq l (i + 1) = (frq l i).set i ((lFree l).getD i 0) := by
  unfold frq
  have hl : ((lFree l).take i).length = i := by rw [List.length_take, lFree_length]; omega
  rw [List.set_append_right _ _ (by omega), hl, Nat.sub_self, show 8 - i = (8 - (i + 1)) + 1 by omega, List.replicate_succ, List.set_cons_zero, List.take_add_one, List.getD_eq_getElem?_getD, List.getElem?_eq_getElem (by rw [lFree_length]; exact hi), Option.toList_some, List.append_assoc]
  rfl
theorem frq_same (l : Lg) {i : Nat} (hi : i < 8) (h0 : (lFree l).getD i 0 = 0) : frq l (i + 1) = frq l i := by
  rw [frq_next l hi, h0]
  unfold frq
  have hl : ((lFree l).take i).length = i := by rw [List.length_take, lFree_length]; omega
  rw [List.set_append_right _ _ (by omega), hl, Nat.sub_self, show 8 - i = (8 - (i + 1)) + 1 by omega, List.replicate_succ, List.set_cons_zero]
end Go.Proofs.Ytogijfebfffobaa

namespace Go.Proofs.Ytogijfebfffobaa
set_option maxRecDepth 100000
set_option linter.unusedVariables false
open Go.RowKit

/-- A ledger and a number. -/
def Lgn13 (r : Lg × Int) (w : World) (e : Ending) (w' : World) : Prop := e = .returned (.tuple #[.agg (lgc r.1).toArray, .int .i64 r.2]) ∧ Below w.heap.size w w'
/-- The cells of nothing. -/
def z9 : List Value := [.int .u64 0, .int .u64 0, .int .u64 0, .int .u64 0, .int .u64 0, .int .u64 0, .int .u64 0, .int .u64 0, .int .u64 0]
theorem lgc_lz : lgc lz = z9 := rfl
theorem z9_one : ∀ u ∈ z9, u.oneCell' = true := by rw [← lgc_lz]; exact lgc_one lz

end Go.Proofs.Ytogijfebfffobaa

namespace Go.Proofs.Ytogijfebfffobaa
set_option maxRecDepth 100000
set_option linter.unusedVariables false
open Go.RowKit

/-- A ledger's cells. -/
def Agg13 (l : Lg) (w : World) (e : Ending) (w' : World) : Prop := e = .returned (.agg (lgc l).toArray) ∧ Below w.heap.size w w'
theorem held_eight {h : List Nat} (hl : h.length = 8) : ∃ a b c d e f g i, h = [a, b, c, d, e, f, g, i] := by
  match h, hl with
  | [a, b, c, d, e, f, g, i], _ => exact ⟨a, b, c, d, e, f, g, i, rfl⟩

theorem u64_inj {a b : Nat} (h : Value.int .u64 (a : Int) = Value.int .u64 (b : Int)) : a = b := by
  injection h with _ h
  exact Int.ofNat.inj h
theorem hlc_inj : ∀ {a b : List Nat}, hlc a = hlc b → a = b
  | [], [], _ => rfl
  | [], _ :: _, h => by cases h
  | _ :: _, [], h => by cases h
  | x :: a, y :: b, h => by
    have h' : Value.int .u64 (x : Int) :: hlc a = Value.int .u64 (y : Int) :: hlc b := h
    injection h' with h1 h2
    rw [u64_inj h1, hlc_inj h2]
theorem lgc_inj {l m : Lg} (h : lgc l = lgc m) : l = m := by
  obtain ⟨a, h1⟩ := l
  obtain ⟨b, h2⟩ := m
  have h' : Value.int .u64 (a : Int) :: hlc h1 = Value.int .u64 (b : Int) :: hlc h2 := h
  injection h' with e1 e2
  rw [u64_inj e1, hlc_inj e2]
end Go.Proofs.Ytogijfebfffobaa

namespace Go.Proofs.Ytogijfebfffobaa
set_option maxRecDepth 100000
set_option linter.unusedVariables false
open Go.RowKit

end Go.Proofs.Ytogijfebfffobaa

namespace Go.Proofs.Ytogijfebfffobaa
set_option maxRecDepth 100000
set_option linter.unusedVariables false
open Go.RowKit

/-- The cells of the first priorities of a ledger in memory. -/
theorem held_cells {l : Lg} (hl : LgOk l) {W : World} {q : Nat} {T : TypeId} (hb : Blk W q T (lgc l)) (m : Nat) (hm : m ≤ 8) : ∀ i : Nat, i < m → W.cell? ⟨q, 1 + i, none⟩ = some (.int .u64 (((l.held.take m).getD i 0 : Nat) : Int)) := by
  intro i hi
  rw [hb.cell, lgc_held hl (by omega), List.getD_eq_getElem?_getD, List.getD_eq_getElem?_getD, List.getElem?_take_of_lt hi]
theorem take_lt {l : Lg} (hl : LgOk l) (m : Nat) : ∀ n ∈ l.held.take m, n < 18446744073709551616 := fun n hn => hl.2.2 n (List.mem_of_mem_take hn)
/-- Something may be put or taken at a priority. -/
def lMay (l : Lg) (p : Int) : Bool := decide (0 ≤ p ∧ p ≤ 7) && lRight l
end Go.Proofs.Ytogijfebfffobaa
