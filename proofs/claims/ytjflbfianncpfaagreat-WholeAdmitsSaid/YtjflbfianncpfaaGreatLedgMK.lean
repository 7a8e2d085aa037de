/-
  How much of a link is held, plain: ledgers as lists of eight numbers; what is free; more held at a priority, or less. No condition.
  The document's answers of layer 13 (viaductref13): Add, upto, Sum, Right. Condition: numbers of 64 bits, eight priorities.
  The document's answers of layer 13 (viaductref13): Put, Take. Condition: numbers of 64 bits, eight priorities.
  Ledgers from the document's type to the code's and back; ledgers and eight numbers are compared. Condition: numbers of 64 bits, eight priorities.
  What the code of layer 13 (ledger) must keep, and what the laws ask first of all, under that. Condition: as its theorems say.
  What the code of layer 13 (ledger) keeps: Add, total, Sum, Right, may, Free, Put, Take. Condition: numbers of 64 bits, eight priorities.
-/
import Derived.Test.YtjflbfianncpfaaGreatBase
import Derived.Deep.CutBlock
namespace Go.Proofs.YtjflbfianncpfaaGreat
set_option maxRecDepth 100000

/-- How much there is, and how much is held at each priority. -/
structure Lg where
  cap : Nat
  held : List Nat
/-- Eight numbers of 64 bits, and one more. -/
def LgOk (l : Lg) : Prop := l.held.length = 8 ∧ l.cap < 18446744073709551616 ∧ ∀ n ∈ l.held, n < 18446744073709551616
/-- Nothing. -/
def lz : Lg := ⟨0, [0, 0, 0, 0, 0, 0, 0, 0]⟩
theorem lz_ok : LgOk lz := ⟨rfl, by decide, by decide⟩
/-- What the first p priorities hold. -/
def psum (h : List Nat) (p : Nat) : Nat := (h.take p).sum
def lRight (l : Lg) : Bool := decide (l.held.sum ≤ l.cap)
def lFree (l : Lg) : List Nat := (List.range 8).map fun p => l.cap - psum l.held (p + 1)
/-- More is held at a priority. -/
def lPut (l : Lg) (p : Int) (b : Nat) : Lg × Int :=
  if (0 ≤ p ∧ p ≤ 7) ∧ lRight l = true then (if l.held.sum + b ≤ l.cap then (⟨l.cap, l.held.set p.toNat (l.held.getD p.toNat 0 + b)⟩, 0) else (lz, 14)) else (lz, 2)
/-- Less is held at it. -/
def lTake (l : Lg) (p : Int) (b : Nat) : Lg × Int :=
  if (0 ≤ p ∧ p ≤ 7) ∧ lRight l = true then (if l.held.getD p.toNat 0 < b then (lz, 8) else (⟨l.cap, l.held.set p.toNat (l.held.getD p.toNat 0 - b)⟩, 0)) else (lz, 2)

theorem psum_zero (h : List Nat) : psum h 0 = 0 := rfl
theorem psum_succ {h : List Nat} {i : Nat} (hi : i < h.length) : psum h (i + 1) = psum h i + h.getD i 0 := by
  unfold psum
  rw [List.take_add_one, List.getElem?_eq_getElem hi, List.getD_eq_getElem?_getD, List.getElem?_eq_getElem hi, Option.toList_some, List.sum_append]
  rfl
theorem psum_all {h : List Nat} {n : Nat} (hn : h.length ≤ n) : psum h n = h.sum := by unfold psum; rw [List.take_of_length_le hn]
theorem psum_le (h : List Nat) {i j : Nat} (hij : i ≤ j) : psum h i ≤ psum h j := by
  unfold psum
  rw [← Nat.add_sub_cancel' hij, List.take_add]
  simp
theorem psum_le_sum (h : List Nat) (i : Nat) : psum h i ≤ h.sum := by
  have := psum_le h (Nat.le_max_left i h.length)
  rwa [psum_all (Nat.le_max_right i h.length)] at this
theorem sum_set {h : List Nat} {p : Nat} (hp : p < h.length) (v : Nat) : (h.set p v).sum + h.getD p 0 = h.sum + v := by
  induction h generalizing p with
  | nil => simp at hp
  | cons x t ih =>
    cases p with
    | zero => simp; omega
    | succ p =>
      have := ih (p := p) (by simpa using hp)
      simp only [List.set_cons_succ, List.sum_cons, List.getD_cons_succ]
      omega
theorem getD_le_sum (h : List Nat) (p : Nat) : h.getD p 0 ≤ h.sum := by
  induction h generalizing p with
  | nil => simp
  | cons x t ih =>
    cases p with
    | zero => simp
    | succ p =>
      have := ih p
      simp only [List.getD_cons_succ, List.sum_cons]
      omega
theorem psum_set_lt {h : List Nat} {p i : Nat} (hi : i ≤ p) (v : Nat) : psum (h.set p v) i = psum h i := by
  unfold psum
  rw [List.take_set_of_le hi]
theorem psum_set_ge {h : List Nat} {p i : Nat} (hp : p < h.length) (hi : p < i) (v : Nat) : psum (h.set p v) i + h.getD p 0 = psum h i + v := by
  unfold psum
  rw [List.take_set]
  have h2 : h.getD p 0 = (h.take i).getD p 0 := by
    rw [List.getD_eq_getElem?_getD, List.getD_eq_getElem?_getD, List.getElem?_take_of_lt hi]
  rw [h2]
  exact sum_set (by rw [List.length_take]; omega) v
theorem getD_lt_ok {l : Lg} (h : LgOk l) (p : Nat) : l.held.getD p 0 < 18446744073709551616 := by
  rw [List.getD_eq_getElem?_getD]
  cases e : l.held[p]? with
  | none => simp
  | some x => exact h.2.2 x (List.mem_of_getElem? e)

theorem set_ok {l : Lg} (h : LgOk l) (p v : Nat) (hv : v < 18446744073709551616) : LgOk ⟨l.cap, l.held.set p v⟩ := by
  refine ⟨by rw [List.length_set]; exact h.1, h.2.1, fun n hn => ?_⟩
  rcases List.mem_or_eq_of_mem_set hn with h1 | h1
  · exact h.2.2 n h1
  · rw [h1]; exact hv
theorem lPut_ok {l : Lg} (h : LgOk l) (p : Int) (b : Nat) : LgOk (lPut l p b).1 := by
  unfold lPut
  split
  · split
    · rename_i h1
      have := getD_le_sum l.held p.toNat
      have := h.2.1
      exact set_ok h _ _ (by omega)
    · exact lz_ok
  · exact lz_ok
theorem lTake_ok {l : Lg} (h : LgOk l) (p : Int) (b : Nat) : LgOk (lTake l p b).1 := by
  unfold lTake
  split
  · split
    · exact lz_ok
    · have := getD_lt_ok h p.toNat
      exact set_ok h _ _ (by omega)
  · exact lz_ok

/-- The answer of a call that is right. -/
theorem lPut_zero {l : Lg} {p : Int} {b : Nat} (h : (lPut l p b).2 = 0) : (0 ≤ p ∧ p ≤ 7) ∧ lRight l = true ∧ l.held.sum + b ≤ l.cap ∧ (lPut l p b).1 = ⟨l.cap, l.held.set p.toNat (l.held.getD p.toNat 0 + b)⟩ := by
  unfold lPut at h ⊢
  split at h
  · rename_i h1
    split at h
    · rename_i h2
      rw [if_pos h1, if_pos h2]
      exact ⟨h1.1, h1.2, h2, rfl⟩
    · exact absurd h (by decide)
  · exact absurd h (by decide)
theorem lPut_bad {l : Lg} {p : Int} {b : Nat} (h : (lPut l p b).2 ≠ 0) : (lPut l p b).1 = lz := by
  unfold lPut at h ⊢
  split
  · rename_i h1
    rw [if_pos h1] at h
    split
    · rename_i h2
      rw [if_pos h2] at h
      exact absurd rfl h
    · rfl
  · rfl
theorem lTake_zero {l : Lg} {p : Int} {b : Nat} (h : (lTake l p b).2 = 0) : (0 ≤ p ∧ p ≤ 7) ∧ lRight l = true ∧ b ≤ l.held.getD p.toNat 0 ∧ (lTake l p b).1 = ⟨l.cap, l.held.set p.toNat (l.held.getD p.toNat 0 - b)⟩ := by
  unfold lTake at h ⊢
  split at h
  · rename_i h1
    split at h
    · exact absurd h (by decide)
    · rename_i h2
      rw [if_pos h1, if_neg h2]
      exact ⟨h1.1, h1.2, by omega, rfl⟩
  · exact absurd h (by decide)
/-- What was put is taken again. -/
theorem put_take {l : Lg} (hl : LgOk l) {p : Int} {b : Nat} (h : (lPut l p b).2 = 0) : lTake (lPut l p b).1 p b = (l, 0) := by
  obtain ⟨h1, h2, h3, h4⟩ := lPut_zero h
  have hp : p.toNat < l.held.length := by rw [hl.1]; omega
  have hs := sum_set hp (l.held.getD p.toNat 0 + b)
  rw [h4]
  unfold lTake
  have hg : (l.held.set p.toNat (l.held.getD p.toNat 0 + b)).getD p.toNat 0 = l.held.getD p.toNat 0 + b := by
    rw [List.getD_eq_getElem?_getD, List.getElem?_set_self hp]; rfl
  simp only [hg]
  rw [if_pos ⟨h1, decide_eq_true (by simp only; omega)⟩, if_neg (by omega), List.set_set, Nat.add_sub_cancel]
  have he : l.held.set p.toNat (l.held.getD p.toNat 0) = l.held := by
    rw [List.getD_eq_getElem?_getD, List.getElem?_eq_getElem hp, Option.getD_some, List.set_getElem_self]
  rw [he]
theorem put_right {l : Lg} (hl : LgOk l) {p : Int} {b : Nat} (h : (lPut l p b).2 = 0) : (lPut l p b).1.held.sum = l.held.sum + b ∧ (lPut l p b).1.cap = l.cap ∧ lRight (lPut l p b).1 = true := by
  obtain ⟨h1, h2, h3, h4⟩ := lPut_zero h
  have hp : p.toNat < l.held.length := by rw [hl.1]; omega
  have hs := sum_set hp (l.held.getD p.toNat 0 + b)
  rw [h4]
  refine ⟨by simp only; omega, rfl, decide_eq_true (by simp only; omega)⟩
theorem take_right {l : Lg} (hl : LgOk l) {p : Int} {b : Nat} (h : (lTake l p b).2 = 0) : (lTake l p b).1.held.sum + b = l.held.sum ∧ (lTake l p b).1.cap = l.cap ∧ lRight (lTake l p b).1 = true := by
  obtain ⟨h1, h2, h3, h4⟩ := lTake_zero h
  have hp : p.toNat < l.held.length := by rw [hl.1]; omega
  have hs := sum_set hp (l.held.getD p.toNat 0 - b)
  have h5 : l.held.sum ≤ l.cap := of_decide_eq_true h2
  rw [h4]
  refine ⟨by simp only; omega, rfl, decide_eq_true (by simp only; omega)⟩

theorem lFree_length (l : Lg) : (lFree l).length = 8 := by unfold lFree; simp
theorem lFree_get (l : Lg) {p : Nat} (hp : p < 8) : (lFree l).getD p 0 = l.cap - psum l.held (p + 1) := by
  unfold lFree
  rw [List.getD_eq_getElem?_getD, List.getElem?_map, List.getElem?_range hp]; rfl
theorem lFree_le (l : Lg) {p : Nat} (hp : p + 1 < 8) : (lFree l).getD (p + 1) 0 ≤ (lFree l).getD p 0 := by
  rw [lFree_get l hp, lFree_get l (by omega)]
  have := psum_le l.held (show p + 1 ≤ p + 1 + 1 by omega)
  omega
theorem lFree_last {l : Lg} (hl : LgOk l) : (lFree l).getD 7 0 = l.cap - l.held.sum := by
  rw [lFree_get l (by omega), psum_all (by rw [hl.1]; exact Nat.le_refl _)]
theorem lFree_bound (l : Lg) (p : Nat) : (lFree l).getD p 0 ≤ l.cap := by
  by_cases hp : p < 8
  · rw [lFree_get l hp]; omega
  · rw [List.getD_eq_getElem?_getD, List.getElem?_eq_none (by rw [lFree_length]; omega)]; simp
/-- What is free behind a call of Put. -/
theorem free_put {l : Lg} (hl : LgOk l) {p : Int} {b : Nat} (h : (lPut l p b).2 = 0) {i : Nat} (hi : i < 8) :
    (lFree (lPut l p b).1).getD i 0 = if (i : Int) < p then (lFree l).getD i 0 else (lFree l).getD i 0 - b := by
  obtain ⟨h1, h2, h3, h4⟩ := lPut_zero h
  have hp : p.toNat < l.held.length := by rw [hl.1]; omega
  rw [h4, lFree_get _ hi, lFree_get _ hi]
  split
  · rename_i h5
    rw [psum_set_lt (by omega)]
  · rename_i h5
    have := psum_set_ge hp (i := i + 1) (by omega) (l.held.getD p.toNat 0 + b)
    simp only
    omega
theorem free_ge {l : Lg} {p : Int} {b : Nat} (h : (lPut l p b).2 = 0) {i : Nat} (hi : i < 8) : b ≤ (lFree l).getD i 0 := by
  obtain ⟨h1, h2, h3, h4⟩ := lPut_zero h
  rw [lFree_get _ hi]
  have := psum_le_sum l.held (i + 1)
  omega
/-- Two that are put, in either order. -/
theorem put_either {l : Lg} (hl : LgOk l) (p q : Int) (a b : Nat) :
    ((lPut l p a).2 = 0 ∧ (lPut (lPut l p a).1 q b).2 = 0) ↔ ((lPut l q b).2 = 0 ∧ (lPut (lPut l q b).1 p a).2 = 0) := by
  have key : ∀ (p q : Int) (a b : Nat), ((lPut l p a).2 = 0 ∧ (lPut (lPut l p a).1 q b).2 = 0) ↔ ((0 ≤ p ∧ p ≤ 7) ∧ (0 ≤ q ∧ q ≤ 7) ∧ l.held.sum + a + b ≤ l.cap) := by
    intro p q a b
    constructor
    · rintro ⟨h1, h2⟩
      obtain ⟨g1, g2, g3, g4⟩ := lPut_zero h1
      obtain ⟨k1, k2, k3, _⟩ := lPut_zero h2
      obtain ⟨e1, e2, _⟩ := put_right hl h1
      rw [e1, e2] at k3
      exact ⟨g1, k1, k3⟩
    · rintro ⟨h1, h2, h3⟩
      have r1 : (lPut l p a).2 = 0 := by unfold lPut; rw [if_pos ⟨h1, decide_eq_true (by omega)⟩, if_pos (by omega)]
      obtain ⟨e1, e2, e3⟩ := put_right hl r1
      refine ⟨r1, ?_⟩
      show (lPut (lPut l p a).1 q b).2 = 0
      generalize (lPut l p a).1 = m at e1 e2 e3
      unfold lPut
      rw [if_pos ⟨h2, e3⟩, if_pos (by omega)]
  rw [key p q a b, key q p b a]
  constructor <;> (rintro ⟨h1, h2, h3⟩; exact ⟨h2, h1, by omega⟩)
theorem put_swap {l : Lg} (hl : LgOk l) {p q : Int} {a b : Nat} (h1 : (lPut l p a).2 = 0) (h2 : (lPut (lPut l p a).1 q b).2 = 0) : (lPut (lPut l p a).1 q b).1 = (lPut (lPut l q b).1 p a).1 := by
  obtain ⟨k1, k2⟩ := (put_either hl p q a b).1 ⟨h1, h2⟩
  obtain ⟨g1, _, _, g4⟩ := lPut_zero h1
  obtain ⟨n1, _, _, n4⟩ := lPut_zero h2
  obtain ⟨m1, _, _, m4⟩ := lPut_zero k1
  obtain ⟨_, _, _, o4⟩ := lPut_zero k2
  rw [n4, o4, g4, m4]
  simp only [Lg.mk.injEq, true_and]
  have hp : p.toNat < l.held.length := by rw [hl.1]; omega
  have hq : q.toNat < l.held.length := by rw [hl.1]; omega
  refine List.ext_getElem? fun i => ?_
  simp only [List.getElem?_set, List.length_set, List.getD_eq_getElem?_getD]
  by_cases e1 : q.toNat = p.toNat
  · rw [e1]
    by_cases e2 : p.toNat = i
    · subst e2
      simp [hp]; omega
    · simp [e2]
  · by_cases e2 : q.toNat = i
    · subst e2
      simp [hq, Ne.symm e1]
    · by_cases e3 : p.toNat = i
      · subst e3
        simp [hp, e1]
      · simp [e2, e3]
end Go.Proofs.YtjflbfianncpfaaGreat

namespace Go.Proofs.YtjflbfianncpfaaGreat
set_option maxRecDepth 100000
set_option linter.unusedVariables false
open Go.RowKit

/-- The cells of a ledger. -/
def lgc (l : Lg) : List Value := .int .u64 (l.cap : Int) :: l.held.map (fun n => .int .u64 ((n : Nat) : Int))
theorem lgc_length {l : Lg} (h : LgOk l) : (lgc l).length = 9 := by unfold lgc; simp [h.1]
theorem lgc_cap (l : Lg) : (lgc l)[0]? = some (.int .u64 (l.cap : Int)) := rfl
theorem lgc_held {l : Lg} (h : LgOk l) {i : Nat} (hi : i < 8) : (lgc l)[1 + i]? = some (.int .u64 ((l.held.getD i 0 : Nat) : Int)) := by
  unfold lgc
  rw [Nat.add_comm, List.getElem?_cons_succ, List.getElem?_map, List.getD_eq_getElem?_getD, List.getElem?_eq_getElem (by rw [h.1]; exact hi)]
  rfl
theorem lgc_set (l : Lg) (i v : Nat) : lgc ⟨l.cap, l.held.set i v⟩ = (lgc l).set (1 + i) (.int .u64 (v : Int)) := by
  unfold lgc
  rw [Nat.add_comm, List.set_cons_succ, List.map_set]

/-- A sum, and whether it is one. -/
def aS (n : Nat) : Nat := if n < 18446744073709551616 then n else 0
def Two13 (n : Nat) (w : World) (e : Ending) (w' : World) : Prop := e = .returned (.tuple #[.int .u64 ((aS n : Nat) : Int), .bool (decide (n < 18446744073709551616))]) ∧ Below w.heap.size w w'

theorem infoArrR : (Tryz.prog.info? 36).map (·.size) = some 8 := by kernel_rfl
/-- The cells of eight numbers. -/
def hlc (h : List Nat) : List Value := h.map (fun n => .int .u64 ((n : Nat) : Int))
theorem hlc_set (h : List Nat) (i v : Nat) : hlc (h.set i v) = (hlc h).set i (.int .u64 (v : Int)) := by unfold hlc; rw [List.map_set]
theorem hlc_length (h : List Nat) : (hlc h).length = h.length := by unfold hlc; simp
/-- Eight noughts. -/
def z8 : List Value := [.int .u64 0, .int .u64 0, .int .u64 0, .int .u64 0, .int .u64 0, .int .u64 0, .int .u64 0, .int .u64 0]
theorem hlc_one (h : List Nat) : ∀ u ∈ hlc h, u.oneCell' = true := by
  intro u hu
  unfold hlc at hu
  obtain ⟨n, _, rfl⟩ := List.mem_map.1 hu
  rfl
theorem lgc_one (l : Lg) : ∀ u ∈ lgc l, u.oneCell' = true := by
  intro u hu
  unfold lgc at hu
  rcases List.mem_cons.1 hu with rfl | hu
  · rfl
  · exact hlc_one l.held u hu
/-- Three blocks that were made one behind the other. -/
theorem alloc3 (w : World) (a b c : List Value) (T U V : TypeId) : Blk (((w.alloc (.cells a.toArray T)).alloc (.cells b.toArray U)).alloc (.cells c.toArray V)) w.heap.size T a ∧ Blk (((w.alloc (.cells a.toArray T)).alloc (.cells b.toArray U)).alloc (.cells c.toArray V)) (w.heap.size + 1) U b ∧
    Blk (((w.alloc (.cells a.toArray T)).alloc (.cells b.toArray U)).alloc (.cells c.toArray V)) (w.heap.size + 2) V c ∧ Below w.heap.size w (((w.alloc (.cells a.toArray T)).alloc (.cells b.toArray U)).alloc (.cells c.toArray V)) := by
  have s1 : (w.alloc (.cells a.toArray T)).heap.size = w.heap.size + 1 := Array.size_push _
  have s2 : ((w.alloc (.cells a.toArray T)).alloc (.cells b.toArray U)).heap.size = w.heap.size + 2 := (Array.size_push _).trans (by rw [s1])
  refine ⟨((Blk.new w T a).alloc _).alloc _, ?_, ?_, bel_new (bel_new (bel_new (Below.refl _ _) _) _) _⟩
  · have := (Blk.new (w.alloc (.cells a.toArray T)) U b).alloc (.cells c.toArray V)
    rwa [s1] at this
  · have := Blk.new ((w.alloc (.cells a.toArray T)).alloc (.cells b.toArray U)) V c
    rwa [s2] at this
theorem alloc2 (w : World) (a b : List Value) (T U : TypeId) : Blk ((w.alloc (.cells a.toArray T)).alloc (.cells b.toArray U)) w.heap.size T a ∧ Blk ((w.alloc (.cells a.toArray T)).alloc (.cells b.toArray U)) (w.heap.size + 1) U b ∧ Below w.heap.size w ((w.alloc (.cells a.toArray T)).alloc (.cells b.toArray U)) := by
  have s1 : (w.alloc (.cells a.toArray T)).heap.size = w.heap.size + 1 := Array.size_push _
  refine ⟨(Blk.new w T a).alloc _, ?_, bel_new (bel_new (Below.refl _ _) _) _⟩
  have := Blk.new (w.alloc (.cells a.toArray T)) U b
  rwa [s1] at this
/-- What is free, as far as it is told. -/
def frq (l : Lg) (i : Nat) : List Nat := (lFree l).take i ++ List.replicate (8 - i) 0
theorem frq_length (l : Lg) {i : Nat} (hi : i ≤ 8) : (frq l i).length = 8 := by unfold frq; simp [lFree_length]; omega
theorem frq_all (l : Lg) : frq l 8 = lFree l := by unfold frq; rw [List.take_of_length_le (by rw [lFree_length]; exact Nat.le_refl _)]; simp
theorem frq_next (l : Lg) {i : Nat} (hi : i < 8) : frq l (i + 1) = (frq l i).set i ((lFree l).getD i 0) := by
  unfold frq
  have hl : ((lFree l).take i).length = i := by rw [List.length_take, lFree_length]; omega
  rw [List.set_append_right _ _ (by omega), hl, Nat.sub_self, show 8 - i = (8 - (i + 1)) + 1 by omega, List.replicate_succ, List.set_cons_zero, List.take_add_one, List.getD_eq_getElem?_getD, List.getElem?_eq_getElem (by rw [lFree_length]; exact hi), Option.toList_some, List.append_assoc]
  rfl
theorem frq_same (l : Lg) {i : Nat} (hi : i < 8) (h0 : (lFree l).getD i 0 = 0) : frq l (i + 1) = frq l i := by
  rw [frq_next l hi, h0]
  unfold frq
  have hl : ((lFree l).take i).length = i := by rw [List.length_take, lFree_length]; omega
  rw [List.set_append_right _ _ (by omega), hl, Nat.sub_self, show 8 - i = (8 - (i + 1)) + 1 by omega, List.replicate_succ, List.set_cons_zero]
end Go.Proofs.YtjflbfianncpfaaGreat

namespace Go.Proofs.YtjflbfianncpfaaGreat
set_option maxRecDepth 100000
set_option linter.unusedVariables false
open Go.RowKit

/-- A ledger and a number. -/
def Lgn13 (r : Lg × Int) (w : World) (e : Ending) (w' : World) : Prop := e = .returned (.tuple #[.agg (lgc r.1).toArray, .int .i64 r.2]) ∧ Below w.heap.size w w'
/-- The cells of nothing. -/
def z9 : List Value := [.int .u64 0, .int .u64 0, .int .u64 0, .int .u64 0, .int .u64 0, .int .u64 0, .int .u64 0, .int .u64 0, .int .u64 0]
theorem lgc_lz : lgc lz = z9 := rfl
theorem z9_one : ∀ u ∈ z9, u.oneCell' = true := by rw [← lgc_lz]; exact lgc_one lz

end Go.Proofs.YtjflbfianncpfaaGreat

namespace Go.Proofs.YtjflbfianncpfaaGreat
set_option maxRecDepth 100000
set_option linter.unusedVariables false
open Go.RowKit

theorem infoLedgL : (Tryz.prog.info? 38).map (·.size) = some 9 := by kernel_rfl
/-- A ledger's cells. -/
def Agg13 (l : Lg) (w : World) (e : Ending) (w' : World) : Prop := e = .returned (.agg (lgc l).toArray) ∧ Below w.heap.size w w'
theorem held_eight {h : List Nat} (hl : h.length = 8) : ∃ a b c d e f g i, h = [a, b, c, d, e, f, g, i] := by
  match h, hl with
  | [a, b, c, d, e, f, g, i], _ => exact ⟨a, b, c, d, e, f, g, i, rfl⟩

theorem u64_inj {a b : Nat} (h : Value.int .u64 (a : Int) = Value.int .u64 (b : Int)) : a = b := by
  injection h with _ h
  exact Int.ofNat.inj h
theorem hlc_inj : ∀ {a b : List Nat}, hlc a = hlc b → a = b
  | [], [], _ => rfl
  | [], _ :: _, h => by cases h
  | _ :: _, [], h => by cases h
  | x :: a, y :: b, h => by
    have h' : Value.int .u64 (x : Int) :: hlc a = Value.int .u64 (y : Int) :: hlc b := h
    injection h' with h1 h2
    rw [u64_inj h1, hlc_inj h2]
theorem lgc_inj {l m : Lg} (h : lgc l = lgc m) : l = m := by
  obtain ⟨a, h1⟩ := l
  obtain ⟨b, h2⟩ := m
  have h' : Value.int .u64 (a : Int) :: hlc h1 = Value.int .u64 (b : Int) :: hlc h2 := h
  injection h' with e1 e2
  rw [u64_inj e1, hlc_inj e2]
theorem eq_lgL {l m : Lg} (hl : LgOk l) (hm : LgOk m) (w : World) (c : Bool) (hc : c = true ↔ l = m) :
    (binOp .eql 38 (.agg (lgc l).toArray) (.agg (lgc m).toArray)).run Tryz.prog w = .ok (.bool c) w := by
  obtain ⟨cp, hd⟩ := l
  obtain ⟨a1, a2, a3, a4, a5, a6, a7, a8, rfl⟩ := held_eight hl.1
  obtain ⟨cq, he⟩ := m
  obtain ⟨b1, b2, b3, b4, b5, b6, b7, b8, rfl⟩ := held_eight hm.1
  exact (eql_E (m := 5) (D := 5) (by decide) (by kernel_rfl) (by rfl) (by rfl) (by rfl) (by rfl) w c (hc.trans ⟨fun h => by rw [h], fun h => lgc_inj h⟩)).1
theorem eq_hl {a b : List Nat} (ha : a.length = 8) (hb : b.length = 8) (w : World) (c : Bool) (hc : c = true ↔ a = b) :
    (binOp .eql 36 (.agg (hlc a).toArray) (.agg (hlc b).toArray)).run Tryz.prog w = .ok (.bool c) w := by
  obtain ⟨a1, a2, a3, a4, a5, a6, a7, a8, rfl⟩ := held_eight ha
  obtain ⟨b1, b2, b3, b4, b5, b6, b7, b8, rfl⟩ := held_eight hb
  exact (eql_E (m := 5) (D := 5) (by decide) (by kernel_rfl) (by rfl) (by rfl) (by rfl) (by rfl) w c (hc.trans ⟨fun h => by rw [h], fun h => hlc_inj h⟩)).1
end Go.Proofs.YtjflbfianncpfaaGreat

namespace Go.Proofs.YtjflbfianncpfaaGreat
set_option maxRecDepth 100000
set_option linter.unusedVariables false
open Go.RowKit

def AddOk13 : Prop := ∀ a b : Nat, a < 18446744073709551616 → b < 18446744073709551616 → ∀ w, Calls Tryz.prog 33 #[.int .u64 (a : Int), .int .u64 (b : Int)] w (Two13 (a + b) w)
def SumOk13 : Prop := ∀ l, LgOk l → ∀ w, Calls Tryz.prog 83 #[.agg (lgc l).toArray] w (Two13 l.held.sum w)
def RightOk13 : Prop := ∀ l, LgOk l → ∀ w, Calls Tryz.prog 54 #[.agg (lgc l).toArray] w fun e w' => e = .returned (.bool (lRight l)) ∧ Below w.heap.size w w'
def FreeOk13 : Prop := ∀ l, LgOk l → ∀ w, Calls Tryz.prog 6 #[.agg (lgc l).toArray] w fun e w' => e = .returned (.agg (hlc (lFree l)).toArray) ∧ Below w.heap.size w w'
def PutOk13 : Prop := ∀ l, LgOk l → ∀ p : Int, -9223372036854775808 ≤ p → p < 9223372036854775808 → ∀ b : Nat, b < 18446744073709551616 → ∀ w, Calls Tryz.prog 28 #[.agg (lgc l).toArray, .int .i64 p, .int .u64 (b : Int)] w (Lgn13 (lPut l p b) w)
theorem infoLedg9 (l : Lg) (h : LgOk l) : (Tryz.prog.info? 38).map (·.size) = some (lgc l).length := by rw [lgc_length h]; exact infoLedgL
end Go.Proofs.YtjflbfianncpfaaGreat

namespace Go.Proofs.YtjflbfianncpfaaGreat
set_option maxRecDepth 100000
set_option linter.unusedVariables false
open Go.RowKit

theorem add13_calls (a b : Nat) (ha : a < 18446744073709551616) (hb : b < 18446744073709551616) (w : World) : Calls Tryz.prog 33 #[.int .u64 (a : Int), .int .u64 (b : Int)] w fun e w' => e = .returned (.tuple #[.int .u64 ((aS (a + b) : Nat) : Int), .bool (decide (a + b < 18446744073709551616))]) ∧ w' = w := by
  unfold aS
  by_cases h : a + b < 18446744073709551616
  · have e2 : IntKind.u64.wrap ((a : Int) + (b : Int)) = ((a + b : Nat) : Int) := by rw [IntKind.wrap_u64]; omega
    have h1 : ¬ (((a + b : Nat) : Int) < (a : Int)) := by omega
    rw [if_pos h, decide_eq_true h]
    generalize a + b = n at e2 h1
    clear h
    go_enter Tryz.func33, Tryz.ntmps33
    go_wp2
    refine bodyPost_ret (v := .tuple #[.int .u64 (n : Int), .bool true]) (by simp [results, Tryz.results33, go_sem]) rfl ?_
    exact ⟨rfl, rfl⟩
  · have e2 : IntKind.u64.wrap ((a : Int) + (b : Int)) = ((a + b - 18446744073709551616 : Nat) : Int) := by rw [IntKind.wrap_u64]; omega
    have h1 : ((a + b - 18446744073709551616 : Nat) : Int) < (a : Int) := by omega
    rw [if_neg h, decide_eq_false h]
    generalize a + b - 18446744073709551616 = n at e2 h1
    clear h
    go_enter Tryz.func33, Tryz.ntmps33
    go_wp2
    refine bodyPost_ret (v := .tuple #[.int .u64 0, .bool false]) (by simp [results, Tryz.results33, go_sem]) rfl ?_
    exact ⟨rfl, rfl⟩
theorem addok13 : AddOk13 := fun a b ha hb w => (add13_calls a b ha hb w).mono fun _ _ ⟨h1, h2⟩ => ⟨h1, by rw [h2]; exact Below.refl _ _⟩

theorem total13_calls (l : List Nat) (hl : ∀ n ∈ l, n < 18446744073709551616) (n c b o : Nat) (hn : l.length = n) (hn8 : n ≤ 1024) (w : World) (hr : ∀ i : Nat, i < n → w.cell? ⟨b, o + i, none⟩ = some (.int .u64 ((l.getD i 0 : Nat) : Int))) :
    Calls Tryz.prog 16 #[.slice (some ⟨b, o, none⟩) n c] w fun e w' => e = .returned (.tuple #[.int .u64 ((aS l.sum : Nat) : Int), .bool (decide (l.sum < 18446744073709551616))]) ∧ w' = w := by
  have HR := Lib.hid hr
  have HLN := Lib.hid hn
  have HM := Lib.hid hl
  clear hr hn hl
  go_enter Tryz.func16, Tryz.ntmps16
  go_wp2_with fail
  go_loopw [4, 11] (fun s t W => ∃ i : Nat, i ≤ n ∧ psum l i < 18446744073709551616 ∧ s = .int .u64 ((psum l i : Nat) : Int) ∧ t = .int .i64 (i : Int) ∧ W = w) (fun s t W => n - (intOf t).toNat)
  case atStart => exact ⟨0, by omega, by rw [psum_zero]; decide, by rw [psum_zero]; rfl, rfl, rfl⟩
  case round =>
    obtain ⟨i, hi, hs, rfl, rfl, rfl⟩ := hrel
    by_cases hip : i < n
    · have i1 : (i : Int) < (n : Int) := by omega
      have hps := psum_succ (h := l) (i := i) (by rw [HLN.out]; omega)
      have hg : l.getD i 0 < 18446744073709551616 := by
        rw [List.getD_eq_getElem?_getD]
        cases e : l[i]? with
        | none => simp
        | some x => exact HM.out x (List.mem_of_getElem? e)
      have hc : wr.cell? ⟨b, o + i, none⟩ = some (.int .u64 ((l.getD i 0 : Nat) : Int)) := HR.out i hip
      have hk := add13_calls (psum l i) (l.getD i 0) hs hg wr
      rw [← hps] at hk
      have hle := psum_le_sum l (i + 1)
      obtain ⟨C, hC⟩ : ∃ C, psum l (i + 1) = C := ⟨_, rfl⟩
      have HC := Lib.hid hC
      rw [hC] at hk hle
      generalize l.getD i 0 = B at *
      generalize psum l i = A at *
      clear hps hC hg hs
      have HE := Lib.hid hle
      clear hle
      by_cases hC : C < 18446744073709551616
      · unfold aS at hk
        rw [if_pos hC, decide_eq_true hC] at hk
        have HK2 := Lib.hid hk
        have HC2 := Lib.hid hC
        clear hk hC
        go_wp2_with fail
        ((with_reducible refine HK2.out.mono ?_))
        rintro e w2 ⟨rfl, rfl⟩
        go_wp2_with fail
        go_roundw
        case rel => exact ⟨i + 1, by omega, by rw [HC.out]; exact HC2.out, by rw [HC.out], by first | rfl | (simp; omega), by first | rfl | trivial⟩
        case measure => simp [intOf]; omega
      · unfold aS at hk
        rw [if_neg hC, decide_eq_false hC] at hk
        have HK2 := Lib.hid hk
        have HC2 := Lib.hid hC
        clear hk hC
        go_wp2_with fail
        ((with_reducible refine HK2.out.mono ?_))
        rintro e w2 ⟨rfl, rfl⟩
        go_wp2_with fail
        refine bodyPost_ret (v := .tuple #[.int .u64 0, .bool false]) (by simp [results, Tryz.results16, go_sem]) rfl ?_
        refine ⟨?_, rfl⟩
        have h1 := HC2.out
        have h2 := HE.out
        have h3 : ¬ l.sum < 18446744073709551616 := by omega
        unfold aS
        rw [if_neg h3, decide_eq_false h3]
        rfl
    · obtain rfl : i = n := by omega
      have i1 : ¬ ((i : Nat) : Int) < (i : Int) := by omega
      have HS := Lib.hid hs
      have HP := Lib.hid (psum_all (h := l) (n := i) (by rw [HLN.out]; exact Nat.le_refl _))
      clear hip hs
      go_wp2_with fail
      refine bodyPost_ret (v := .tuple #[.int .u64 ((psum l i : Nat) : Int), .bool true]) (by simp [results, Tryz.results16, go_sem]) rfl ?_
      refine ⟨?_, rfl⟩
      have hs := HS.out
      rw [HP.out] at hs ⊢
      unfold aS
      rw [if_pos hs, decide_eq_true hs]

/-- The cells of the first priorities of a ledger in memory. -/
theorem held_cells {l : Lg} (hl : LgOk l) {W : World} {q : Nat} {T : TypeId} (hb : Blk W q T (lgc l)) (m : Nat) (hm : m ≤ 8) : ∀ i : Nat, i < m → W.cell? ⟨q, 1 + i, none⟩ = some (.int .u64 (((l.held.take m).getD i 0 : Nat) : Int)) := by
  intro i hi
  rw [hb.cell, lgc_held hl (by omega), List.getD_eq_getElem?_getD, List.getD_eq_getElem?_getD, List.getElem?_take_of_lt hi]
theorem take_lt {l : Lg} (hl : LgOk l) (m : Nat) : ∀ n ∈ l.held.take m, n < 18446744073709551616 := fun n hn => hl.2.2 n (List.mem_of_mem_take hn)
theorem total_take {l : Lg} (hl : LgOk l) (m : Nat) (hm : m ≤ 8) {W : World} {q : Nat} {T : TypeId} (hb : Blk W q T (lgc l)) (c : Nat) :
    Calls Tryz.prog 16 #[.slice (some ⟨q, 1, none⟩) m c] W fun e w' => e = .returned (.tuple #[.int .u64 ((aS (psum l.held m) : Nat) : Int), .bool (decide (psum l.held m < 18446744073709551616))]) ∧ w' = W :=
  total13_calls (l.held.take m) (take_lt hl m) m c q 1 (by rw [List.length_take, hl.1]; omega) (by omega) W (held_cells hl hb m hm)

theorem sumok13 : SumOk13 := by
  intro l hl w
  unfold Two13
  have hn := Blk.new w 38 (lgc l)
  have hk := total_take hl 8 (by omega) hn 8
  rw [psum_all (by rw [hl.1]; exact Nat.le_refl _)] at hk
  have HK := Lib.hid hk
  have HL := Lib.hid (bel_new (Below.refl w.heap.size w) (.cells (lgc l).toArray 38))
  clear hn hk
  go_enter Tryz.func83, Tryz.ntmps83
  go_upto_region 1 with fail
  generalize (w.alloc (.cells (lgc l).toArray 38)) = w1 at *
  go_wp2_with fail
  ((with_reducible refine HK.out.mono ?_))
  rintro e w2 ⟨rfl, rfl⟩
  go_wp2_with fail
  refine bodyPost_ret (v := .tuple #[.int .u64 ((aS l.held.sum : Nat) : Int), .bool (decide (l.held.sum < 18446744073709551616))]) (by simp [results, Tryz.results83, go_sem]) rfl ?_
  exact ⟨rfl, HL.out⟩
theorem rightok13 : RightOk13 := by
  intro l hl w
  have hn := Blk.new w 38 (lgc l)
  have HB := Lib.hid hn
  have HL := Lib.hid (bel_new (Below.refl w.heap.size w) (.cells (lgc l).toArray 38))
  have HN := Lib.hid (infoLedg9 l hl)
  clear hn
  have hk := sumok13 l hl
  have hcap := hl.2.1
  unfold lRight
  by_cases hC : l.held.sum < 18446744073709551616
  · unfold Two13 aS at hk
    rw [if_pos hC, decide_eq_true hC] at hk
    have HK := Lib.hid hk
    clear hk hC hcap
    go_enter Tryz.func54, Tryz.ntmps54
    go_upto_region 1 with fail
    generalize (w.alloc (.cells (lgc l).toArray 38)) = w1 at *
    go_wp2_with ((with_reducible refine step_load (o := ⟨some 6, _, _, _, _, _⟩) (x := .tmp 1) ?_ ?_ ?_ HB.out Tryz.underlying38 ?_ HN.out ?_); (rfl); (rfl); (rfl); (rfl))
    ((with_reducible refine (HK.out w1).mono ?_))
    rintro e w2 ⟨rfl, hb⟩
    have c0 : w2.cell? ⟨w.heap.size, 0, none⟩ = some (.int .u64 (l.cap : Int)) := ((HB.out.below hb).cell 0).trans (lgc_cap l)
    have HH := Lib.hid hb
    clear hb
    go_wp2_with fail
    go_ret
    refine ⟨?_, HL.out.trans (HH.out.mono HL.out.size)⟩
    simp
  · have h4 : ¬ l.held.sum ≤ l.cap := by omega
    rw [decide_eq_false h4]
    unfold Two13 aS at hk
    rw [if_neg hC, decide_eq_false hC] at hk
    have HK := Lib.hid hk
    clear hk hC hcap h4
    go_enter Tryz.func54, Tryz.ntmps54
    go_upto_region 1 with fail
    generalize (w.alloc (.cells (lgc l).toArray 38)) = w1 at *
    go_wp2_with ((with_reducible refine step_load (o := ⟨some 6, _, _, _, _, _⟩) (x := .tmp 1) ?_ ?_ ?_ HB.out Tryz.underlying38 ?_ HN.out ?_); (rfl); (rfl); (rfl); (rfl))
    ((with_reducible refine (HK.out w1).mono ?_))
    rintro e w2 ⟨rfl, hb⟩
    have HH := Lib.hid hb
    clear hb
    go_wp2_with fail
    go_ret
    exact ⟨rfl, HL.out.trans (HH.out.mono HL.out.size)⟩

/-- Something may be put or taken at a priority. -/
def lMay (l : Lg) (p : Int) : Bool := decide (0 ≤ p ∧ p ≤ 7) && lRight l
theorem may13_calls (l : Lg) (hl : LgOk l) (p : Int) (w : World) : Calls Tryz.prog 53 #[.agg (lgc l).toArray, .int .i64 p] w fun e w' => e = .returned (.bool (lMay l p)) ∧ Below w.heap.size w w' := by
  have hn := Blk.new w 38 (lgc l)
  have HB := Lib.hid hn
  have HL := Lib.hid (bel_new (Below.refl w.heap.size w) (.cells (lgc l).toArray 38))
  have HN := Lib.hid (infoLedg9 l hl)
  have HK := Lib.hid (rightok13 l hl)
  clear hn
  unfold lMay
  by_cases h0 : 0 ≤ p
  · by_cases h8 : p < 8
    · rw [decide_eq_true (show 0 ≤ p ∧ p ≤ 7 by omega), Bool.true_and]
      go_enter Tryz.func53, Tryz.ntmps53
      go_upto_region 1 with fail
      generalize (w.alloc (.cells (lgc l).toArray 38)) = w1 at *
      go_wp2_with ((with_reducible refine step_load_want (o := ⟨some 12, _, _, _, _, _⟩) (x := .tmp 2) ?_ ?_ ?_ HB.out Tryz.underlying38 ?_ HN.out ?_); (rfl); (rfl); (rfl); (rfl))
      ((with_reducible refine (HK.out w1).mono ?_))
      rintro e w2 ⟨rfl, hb⟩
      have HH := Lib.hid hb
      clear hb
      go_wp2_with fail
      go_ret
      exact ⟨rfl, HL.out.trans (HH.out.mono HL.out.size)⟩
    · rw [decide_eq_false (show ¬ (0 ≤ p ∧ p ≤ 7) by omega), Bool.false_and]
      go_enter Tryz.func53, Tryz.ntmps53
      go_wp2_with fail
      go_ret
      exact ⟨rfl, HL.out⟩
  · rw [decide_eq_false (show ¬ (0 ≤ p ∧ p ≤ 7) by omega), Bool.false_and]
    go_enter Tryz.func53, Tryz.ntmps53
    go_wp2_with fail
    go_ret
    exact ⟨rfl, HL.out⟩

theorem freeok13 : FreeOk13 := by
  intro l hl w
  have HN := Lib.hid (infoLedg9 l hl)
  go_enter Tryz.func6, Tryz.ntmps6
  go_upto_region 2 with fail
  obtain ⟨b0, b1, b2, bl⟩ := alloc3 w (lgc l) z8 z8 38 36 36
  have b2' : Blk _ (w.heap.size + 2) 36 (hlc (frq l 0)) := b2
  unfold z8 at b0 b1 b2' bl
  have HL := Lib.hid bl
  have HB := Lib.hid b0
  have HR := Lib.hid b1
  have HO := Lib.hid b2'
  clear b0 b1 b2 bl b2'
  generalize (((w.alloc (.cells (lgc l).toArray 38)).alloc _).alloc _) = w1 at *
  go_wp2_with fail
  go_loopw [7] (fun t W => ∃ i : Nat, i ≤ 8 ∧ t = .int .i64 (i : Int) ∧ Blk W w.heap.size 38 (lgc l) ∧ Blk W (w.heap.size + 1) 36 z8 ∧ Blk W (w.heap.size + 2) 36 (hlc (frq l i)) ∧ Below w.heap.size w W) (fun t W => 8 - (intOf t).toNat)
  case atStart => exact ⟨0, by omega, rfl, HB.out, HR.out, HO.out, HL.out⟩
  case round =>
    obtain ⟨i, hi, rfl, hb, hr, ho, hbl⟩ := hrel
    have HB := Lib.hid hb
    have HR := Lib.hid hr
    have HO := Lib.hid ho
    have HL := Lib.hid hbl
    clear hb hr ho hbl
    by_cases hi8 : i < 8
    · have i1 : (i : Int) < 8 := by omega
      have hk := total_take hl (i + 1) (by omega) HB.out 8
      have hfr := lFree_get l hi8
      have hnx := frq_next l hi8
      have hsm := frq_same l hi8
      have hcap := hl.2.1
      have HX := Lib.hid (And.intro hfr (And.intro hnx hsm))
      clear hfr hnx hsm
      obtain ⟨m, hm⟩ : ∃ m, i + 1 = m := ⟨_, rfl⟩
      have HM := Lib.hid hm
      have m1 : m ≤ 8 := by omega
      have m2 : (m : Int) ≤ 8 := by omega
      have m3 : IntKind.i64.wrap ((i : Int) + 1) = (m : Int) := by rw [IntWalk.i64_in _ (by omega)]; omega
      rw [hm] at hk HX
      clear hm
      by_cases hC : psum l.held m < 18446744073709551616
      · unfold aS at hk
        rw [if_pos hC, decide_eq_true hC] at hk
        have HK := Lib.hid hk
        clear hk
        by_cases hle : psum l.held m ≤ l.cap
        · have h1 : ((psum l.held m : Nat) : Int) ≤ (l.cap : Int) := by omega
          have h2 : IntKind.u64.wrap ((l.cap : Int) - ((psum l.held m : Nat) : Int)) = (((lFree l).getD i 0 : Nat) : Int) := by rw [HX.out.1, IntKind.wrap_u64]; omega
          have H1 := Lib.hid (And.intro h1 h2)
          clear h1 h2 hle hC hcap
          go_wp2_with fail
          ((with_reducible refine HK.out.mono ?_))
          rintro e w2 ⟨rfl, rfl⟩
          have c0 : w2.cell? ⟨w.heap.size, 0, none⟩ = some (.int .u64 (l.cap : Int)) := (HB.out.cell 0).trans (lgc_cap l)
          have f0 := HO.out.free i
          have ci : w2.cell? ⟨w.heap.size + 2, i, none⟩ = some (.int .u64 (((frq l i).getD i 0 : Nat) : Int)) := by
            rw [HO.out.cell i]
            unfold hlc
            rw [List.getElem?_map, List.getD_eq_getElem?_getD, List.getElem?_eq_getElem (by rw [frq_length l (by omega)]; exact hi8)]
            rfl
          obtain ⟨h1, h2⟩ := H1.out
          generalize psum l.held m = C at *
          go_wp2_with fail
          go_roundw
          case rel =>
            refine ⟨m, m1, rfl, HB.out.other (p := ⟨w.heap.size + 2, i, none⟩) (show ¬ w.heap.size + 2 = w.heap.size by omega) _, HR.out.other (p := ⟨w.heap.size + 2, i, none⟩) (show ¬ w.heap.size + 2 = w.heap.size + 1 by omega) _, ?_, HL.out.setCell (p := ⟨w.heap.size + 2, i, none⟩) (show w.heap.size ≤ w.heap.size + 2 by omega) _⟩
            rw [HX.out.2.1, hlc_set]
            exact HO.out.set i _
          case measure => have := HM.out; simp [intOf]; omega
        · have h1 : ¬ ((psum l.held m : Nat) : Int) ≤ (l.cap : Int) := by omega
          have h3 := HX.out.2.2 (by rw [HX.out.1]; omega)
          have H1 := Lib.hid (And.intro h1 h3)
          clear h1 h3 hle hC hcap
          go_wp2_with fail
          ((with_reducible refine HK.out.mono ?_))
          rintro e w2 ⟨rfl, rfl⟩
          have c0 : w2.cell? ⟨w.heap.size, 0, none⟩ = some (.int .u64 (l.cap : Int)) := (HB.out.cell 0).trans (lgc_cap l)
          obtain ⟨h1, h3⟩ := H1.out
          have H3 := Lib.hid h3
          clear h3
          generalize psum l.held m = C at *
          go_wp2_with fail
          go_roundw
          case rel => exact ⟨m, m1, rfl, HB.out, HR.out, by rw [H3.out]; exact HO.out, HL.out⟩
          case measure => have := HM.out; simp [intOf]; omega
      · have h3 := HX.out.2.2 (by rw [HX.out.1]; omega)
        have H3 := Lib.hid h3
        unfold aS at hk
        rw [if_neg hC, decide_eq_false hC] at hk
        have HK := Lib.hid hk
        clear hk h3 hC hcap
        go_wp2_with fail
        ((with_reducible refine HK.out.mono ?_))
        rintro e w2 ⟨rfl, rfl⟩
        go_wp2_with fail
        go_roundw
        case rel => exact ⟨m, m1, rfl, HB.out, HR.out, by rw [H3.out]; exact HO.out, HL.out⟩
        case measure => have := HM.out; simp [intOf]; omega
    · obtain rfl : i = 8 := by omega
      have i1 : ¬ ((8 : Nat) : Int) < 8 := by omega
      have ho := HO.out
      rw [frq_all] at ho
      have hN : (hlc (lFree l)).length = 8 := by rw [hlc_length, lFree_length]
      have h1c := hlc_one (lFree l)
      obtain ⟨V, hV⟩ : ∃ V, hlc (lFree l) = V := ⟨_, rfl⟩
      have HV := Lib.hid hV
      rw [hV] at ho hN h1c
      have HO2 := Lib.hid (show Blk wr (w.heap.size + 1 + 1) 36 V from ho)
      have HN2 := Lib.hid (show (Tryz.prog.info? 36).map (·.size) = some V.length by rw [hN]; exact infoArrR)
      have HN3 := Lib.hid (show z8.length = V.length from hN.symm)
      have H1 := Lib.hid h1c
      clear ho hN h1c hV HO HB
      go_wp2_with (first | ((with_reducible refine step_load (o := ⟨some 32, _, _, _, _, _⟩) (x := .tmp 3) ?_ ?_ ?_ HO2.out Tryz.underlying36 ?_ HN2.out ?_); (rfl); (rfl); (rfl); (rfl)) | ((with_reducible refine step_store (o := ⟨none, _, _, _, _, _⟩) (vs := V) (ty := 36) (x := .tmp 2) (y := .tmp 32) ?_ ?_ ?_ ?_ HR.out HN2.out HN3.out H1.out ?_); (rfl); (rfl); (rfl); (rfl); intro w2 hb2 hg2 hs2))
      refine bodyPost_ret (v := .agg V.toArray) (results_one8 rfl _ rfl hb2 Tryz.underlying36 rfl HN2.out) rfl ?_
      exact ⟨by rw [HV.out], bel_upd HL.out hg2 (Nat.le_refl _) (by omega)⟩

theorem putok13 : PutOk13 := by
  intro l hl p hp1 hp2 b hb w
  obtain ⟨b0, b1, bl⟩ := alloc2 w (lgc l) z9 38 38
  unfold z9 at b0 b1 bl
  have HN := Lib.hid (show (Tryz.prog.info? 38).map (·.size) = some (lgc l).length by rw [lgc_length hl]; exact infoLedgL)
  have hz : (Tryz.prog.info? 38).map (·.size) = some z9.length := infoLedgL
  have HZ := Lib.hid hz
  have HB := Lib.hid b0
  have HR := Lib.hid b1
  have HL := Lib.hid bl
  clear b0 b1 bl hz
  unfold Lgn13
  have hk := may13_calls l hl p
  by_cases hm : lMay l p = true
  · have hpr : (0 ≤ p ∧ p ≤ 7) ∧ lRight l = true := by unfold lMay at hm; simpa using hm
    obtain ⟨hp, hr⟩ := hpr
    rw [hm] at hk
    have HK := Lib.hid hk
    clear hk hm
    have p0 : 0 ≤ p := hp.1
    obtain ⟨P, rfl⟩ := Int.eq_ofNat_of_zero_le p0
    have P8 : P < 8 := by omega
    have i1 : ¬ (P : Int) < 0 := by omega
    have i2 : ¬ (7 : Int) < (P : Int) := by omega
    have i3 : (P : Int) < 8 := by omega
    have hrs : l.held.sum ≤ l.cap := of_decide_eq_true hr
    have hcap := hl.2.1
    have hgl := getD_lt_ok hl P
    have hle := getD_le_sum l.held P
    have hcell := lgc_held hl P8
    have hss := fun v => sum_set (h := l.held) (p := P) (by rw [hl.1]; exact P8) v
    have hset := fun v => lgc_set l P v
    have hmok := fun v hv => set_ok hl P v hv
    have hlen := lgc_length hl
    have ha := fun H hH => add13_calls H b hH hb
    obtain ⟨H, hH⟩ : ∃ H, l.held.getD P 0 = H := ⟨_, rfl⟩
    rw [hH] at hgl hle hss hcell
    have ha := ha H hgl
    unfold aS at ha
    by_cases hok : H + b < 18446744073709551616
    · rw [if_pos hok, decide_eq_true hok] at ha
      obtain ⟨N, hN⟩ : ∃ N, H + b = N := ⟨_, rfl⟩
      obtain ⟨m, hm⟩ : ∃ m : Lg, ⟨l.cap, l.held.set P N⟩ = m := ⟨_, rfl⟩
      have s1 := hss N
      have s2 := hset N
      have s3 := hmok N (by omega)
      have e1 : m.held.sum + H = l.held.sum + N := by rw [← hm]; exact s1
      have e2 : m.cap = l.cap := by rw [← hm]
      rw [hm] at s2 s3
      have HMN := Lib.hid (show (Tryz.prog.info? 38).map (·.size) = some (lgc m).length by rw [lgc_length s3]; exact infoLedgL)
      have HM1 := Lib.hid (lgc_one m)
      have HMZ := Lib.hid (show z9.length = (lgc m).length by rw [lgc_length s3]; rfl)
      rw [hN] at ha
      have hkm := rightok13 m s3
      by_cases hfit : l.held.sum + b ≤ l.cap
      · have hv : lPut l (P : Int) b = (m, 0) := by
          have h9 : l.held.getD ((P : Int).toNat) 0 = H := hH
          unfold lPut; rw [if_pos ⟨⟨by omega, by omega⟩, hr⟩, if_pos hfit]; rw [h9, hN, ← hm]; rfl
        have hrm : lRight m = true := decide_eq_true (by omega)
        rw [hrm] at hkm
        rw [hv]
        have HC := Lib.hid hcell
        have HS := Lib.hid s2
        clear hcell s2
        have HA := Lib.hid ha
        have HKM := Lib.hid hkm
        clear ha hkm hv hrm hok hfit hss hset  hmok hlen s1 s3 e1 e2 hm hN hgl hle hH hrs hcap hr hp hb p0 hp1 hp2
        go_enter Tryz.func28, Tryz.ntmps28
        go_upto_region 1 with fail
        generalize ((w.alloc (.cells (lgc l).toArray 38)).alloc _) = w1 at *
        go_wp2_with ((with_reducible refine step_load_want (o := ⟨some 10, _, _, _, _, _⟩) (x := .tmp 3) ?_ ?_ ?_ HB.out Tryz.underlying38 ?_ HN.out ?_); (rfl); (rfl); (rfl); (rfl))
        ((with_reducible refine (HK.out w1).mono ?_))
        rintro e w2 ⟨rfl, hb2⟩
        have HB2 := Lib.hid (HB.out.below hb2)
        have HR2 := Lib.hid (HR.out.below hb2)
        have HL2 := Lib.hid (HL.out.trans (hb2.mono HL.out.size))
        clear hb2 HB HR HL
        have c1 : w2.cell? ⟨w.heap.size, 1 + P, none⟩ = some (.int .u64 (H : Int)) := (HB2.out.cell _).trans HC.out
        have f1 := HB2.out.free (1 + P)
        go_wp2_with fail
        ((with_reducible refine (HA.out w2).mono ?_))
        rintro e w3 ⟨rfl, rfl⟩
        go_upto_region 5 with fail
        have B3 := Lib.hid (show Blk (w3.setCell ⟨w.heap.size, 1 + P, none⟩ (.int .u64 (N : Int))) w.heap.size 38 (lgc m) by rw [HS.out]; exact HB2.out.set _ _)
        have R3 := Lib.hid (show Blk (w3.setCell ⟨w.heap.size, 1 + P, none⟩ (.int .u64 (N : Int))) (w.heap.size + 1) 38 z9 from HR2.out.other (p := ⟨w.heap.size, 1 + P, none⟩) (show ¬ w.heap.size = w.heap.size + 1 by omega) _)
        have L3 := Lib.hid (HL2.out.setCell (p := ⟨w.heap.size, 1 + P, none⟩) (show w.heap.size ≤ w.heap.size by omega) (.int .u64 (N : Int)))
        clear c1 f1 HB2 HR2 HL2
        generalize w3.setCell ⟨w.heap.size, 1 + P, none⟩ (.int .u64 (N : Int)) = w4 at *
        go_wp2_with ((with_reducible refine step_load_want (o := ⟨some 31, _, _, _, _, _⟩) (x := .tmp 3) ?_ ?_ ?_ B3.out Tryz.underlying38 ?_ HMN.out ?_); (rfl); (rfl); (rfl); (rfl))
        ((with_reducible refine (HKM.out w4).mono ?_))
        rintro e w5 ⟨rfl, hb5⟩
        have B5 := Lib.hid (B3.out.below hb5)
        have R5 := Lib.hid (R3.out.below hb5)
        have L5 := Lib.hid (L3.out.trans (hb5.mono L3.out.size))
        clear hb5 B3 R3 L3
        go_wp2_with (first | ((with_reducible refine step_load (o := ⟨some 36, _, _, _, _, _⟩) (x := .tmp 3) ?_ ?_ ?_ B5.out Tryz.underlying38 ?_ HMN.out ?_); (rfl); (rfl); (rfl); (rfl)) | ((with_reducible refine step_store (o := ⟨none, _, _, _, _, _⟩) (vs := lgc m) (ty := 38) (x := .tmp 6) (y := .tmp 36) ?_ ?_ ?_ ?_ R5.out HMN.out HMZ.out HM1.out ?_); (rfl); (rfl); (rfl); (rfl); intro w6 hb6 hg6 hs6))
        refine bodyPost_ret (v := .tuple #[.agg (lgc m).toArray, .int .i64 0]) (results_two8 rfl _ rfl hb6 Tryz.underlying38 rfl HMN.out rfl) rfl ?_
        exact ⟨rfl, bel_upd L5.out hg6 (Nat.le_refl _) (by omega)⟩
      · have hv : lPut l (P : Int) b = (lz, 14) := by
          have h9 : l.held.getD ((P : Int).toNat) 0 = H := hH
          unfold lPut; rw [if_pos ⟨⟨by omega, by omega⟩, hr⟩, if_neg hfit]
        have hrm : lRight m = false := decide_eq_false (by omega)
        rw [hrm] at hkm
        rw [hv]
        have HC := Lib.hid hcell
        have HS := Lib.hid s2
        clear hcell s2
        have HA := Lib.hid ha
        have HKM := Lib.hid hkm
        clear ha hkm hv hrm hok hfit hss hset  hmok hlen s1 s3 e1 e2 hm hN hgl hle hH hrs hcap hr hp hb p0 hp1 hp2
        go_enter Tryz.func28, Tryz.ntmps28
        go_upto_region 1 with fail
        generalize ((w.alloc (.cells (lgc l).toArray 38)).alloc _) = w1 at *
        go_wp2_with ((with_reducible refine step_load_want (o := ⟨some 10, _, _, _, _, _⟩) (x := .tmp 3) ?_ ?_ ?_ HB.out Tryz.underlying38 ?_ HN.out ?_); (rfl); (rfl); (rfl); (rfl))
        ((with_reducible refine (HK.out w1).mono ?_))
        rintro e w2 ⟨rfl, hb2⟩
        have HB2 := Lib.hid (HB.out.below hb2)
        have HR2 := Lib.hid (HR.out.below hb2)
        have HL2 := Lib.hid (HL.out.trans (hb2.mono HL.out.size))
        clear hb2 HB HR HL
        have c1 : w2.cell? ⟨w.heap.size, 1 + P, none⟩ = some (.int .u64 (H : Int)) := (HB2.out.cell _).trans HC.out
        have f1 := HB2.out.free (1 + P)
        go_wp2_with fail
        ((with_reducible refine (HA.out w2).mono ?_))
        rintro e w3 ⟨rfl, rfl⟩
        go_upto_region 5 with fail
        have B3 := Lib.hid (show Blk (w3.setCell ⟨w.heap.size, 1 + P, none⟩ (.int .u64 (N : Int))) w.heap.size 38 (lgc m) by rw [HS.out]; exact HB2.out.set _ _)
        have R3 := Lib.hid (show Blk (w3.setCell ⟨w.heap.size, 1 + P, none⟩ (.int .u64 (N : Int))) (w.heap.size + 1) 38 z9 from HR2.out.other (p := ⟨w.heap.size, 1 + P, none⟩) (show ¬ w.heap.size = w.heap.size + 1 by omega) _)
        have L3 := Lib.hid (HL2.out.setCell (p := ⟨w.heap.size, 1 + P, none⟩) (show w.heap.size ≤ w.heap.size by omega) (.int .u64 (N : Int)))
        clear c1 f1 HB2 HR2 HL2
        generalize w3.setCell ⟨w.heap.size, 1 + P, none⟩ (.int .u64 (N : Int)) = w4 at *
        go_wp2_with ((with_reducible refine step_load_want (o := ⟨some 31, _, _, _, _, _⟩) (x := .tmp 3) ?_ ?_ ?_ B3.out Tryz.underlying38 ?_ HMN.out ?_); (rfl); (rfl); (rfl); (rfl))
        ((with_reducible refine (HKM.out w4).mono ?_))
        rintro e w5 ⟨rfl, hb5⟩
        have B5 := Lib.hid (B3.out.below hb5)
        have R5 := Lib.hid (R3.out.below hb5)
        have L5 := Lib.hid (L3.out.trans (hb5.mono L3.out.size))
        clear hb5 B3 R3 L3
        go_wp2_with ((with_reducible refine step_store (o := ⟨none, _, _, _, _, _⟩) (vs := z9) (ty := 38) (x := .tmp 6) (y := .tmp 35) ?_ ?_ ?_ ?_ R5.out HZ.out rfl z9_one ?_); (rfl); (rfl); (rfl); (rfl); intro w6 hb6 hg6 hs6)
        refine bodyPost_ret (v := .tuple #[.agg z9.toArray, .int .i64 14]) (results_two8 rfl _ rfl hb6 Tryz.underlying38 rfl HZ.out rfl) rfl ?_
        exact ⟨rfl, bel_upd L5.out hg6 (Nat.le_refl _) (by omega)⟩
    · rw [if_neg hok, decide_eq_false hok] at ha
      have hv : lPut l (P : Int) b = (lz, 14) := by unfold lPut; rw [if_pos ⟨⟨by omega, by omega⟩, hr⟩, if_neg (by omega)]
      rw [hv]
      have HC := Lib.hid hcell
      have HA := Lib.hid ha
      clear ha hcell hv hok hss hset hmok hlen hgl hle hH hrs hcap hr hp hb p0 hp1 hp2
      go_enter Tryz.func28, Tryz.ntmps28
      go_upto_region 1 with fail
      generalize ((w.alloc (.cells (lgc l).toArray 38)).alloc _) = w1 at *
      go_wp2_with ((with_reducible refine step_load_want (o := ⟨some 10, _, _, _, _, _⟩) (x := .tmp 3) ?_ ?_ ?_ HB.out Tryz.underlying38 ?_ HN.out ?_); (rfl); (rfl); (rfl); (rfl))
      ((with_reducible refine (HK.out w1).mono ?_))
      rintro e w2 ⟨rfl, hb2⟩
      have HB2 := Lib.hid (HB.out.below hb2)
      have HR2 := Lib.hid (HR.out.below hb2)
      have HL2 := Lib.hid (HL.out.trans (hb2.mono HL.out.size))
      clear hb2 HB HR HL
      have c1 : w2.cell? ⟨w.heap.size, 1 + P, none⟩ = some (.int .u64 (H : Int)) := (HB2.out.cell _).trans HC.out
      have f1 := HB2.out.free (1 + P)
      go_wp2_with fail
      ((with_reducible refine (HA.out w2).mono ?_))
      rintro e w3 ⟨rfl, rfl⟩
      go_upto_region 5 with fail
      have R3 := Lib.hid (show Blk (w3.setCell ⟨w.heap.size, 1 + P, none⟩ (.int .u64 0)) (w.heap.size + 1) 38 z9 from HR2.out.other (p := ⟨w.heap.size, 1 + P, none⟩) (show ¬ w.heap.size = w.heap.size + 1 by omega) _)
      have L3 := Lib.hid (HL2.out.setCell (p := ⟨w.heap.size, 1 + P, none⟩) (show w.heap.size ≤ w.heap.size by omega) (.int .u64 0))
      clear c1 f1 HB2 HR2 HL2
      generalize w3.setCell ⟨w.heap.size, 1 + P, none⟩ (.int .u64 0) = w4 at *
      go_wp2_with ((with_reducible refine step_store (o := ⟨none, _, _, _, _, _⟩) (vs := z9) (ty := 38) (x := .tmp 6) (y := .tmp 35) ?_ ?_ ?_ ?_ R3.out HZ.out rfl z9_one ?_); (rfl); (rfl); (rfl); (rfl); intro w6 hb6 hg6 hs6)
      refine bodyPost_ret (v := .tuple #[.agg z9.toArray, .int .i64 14]) (results_two8 rfl _ rfl hb6 Tryz.underlying38 rfl HZ.out rfl) rfl ?_
      exact ⟨rfl, bel_upd L3.out hg6 (Nat.le_refl _) (by omega)⟩
  · have hr2 : lMay l p = false := by simpa using hm
    rw [hr2] at hk
    have HK := Lib.hid hk
    clear hk
    have hv : lPut l p b = (lz, 2) := by unfold lPut; rw [if_neg (fun h => hm (by unfold lMay; simpa using h))]
    rw [hv]
    clear hv hm hr2
    go_enter Tryz.func28, Tryz.ntmps28
    go_upto_region 1 with fail
    generalize ((w.alloc (.cells (lgc l).toArray 38)).alloc _) = w1 at *
    go_wp2_with ((with_reducible refine step_load_want (o := ⟨some 10, _, _, _, _, _⟩) (x := .tmp 3) ?_ ?_ ?_ HB.out Tryz.underlying38 ?_ HN.out ?_); (rfl); (rfl); (rfl); (rfl))
    ((with_reducible refine (HK.out w1).mono ?_))
    rintro e w2 ⟨rfl, hb2⟩
    have HR2 := Lib.hid (HR.out.below hb2)
    have HL2 := Lib.hid (HL.out.trans (hb2.mono HL.out.size))
    clear hb2
    go_wp2_with ((with_reducible refine step_store (o := ⟨none, _, _, _, _, _⟩) (vs := z9) (ty := 38) (x := .tmp 6) (y := .tmp 14) ?_ ?_ ?_ ?_ HR2.out HZ.out rfl z9_one ?_); (rfl); (rfl); (rfl); (rfl); intro w3 hb3 hg3 hs3)
    refine bodyPost_ret (v := .tuple #[.agg z9.toArray, .int .i64 2]) (results_two8 rfl _ rfl hb3 Tryz.underlying38 rfl HZ.out rfl) rfl ?_
    exact ⟨rfl, bel_upd HL2.out hg3 (Nat.le_refl _) (by omega)⟩

end Go.Proofs.YtjflbfianncpfaaGreat
