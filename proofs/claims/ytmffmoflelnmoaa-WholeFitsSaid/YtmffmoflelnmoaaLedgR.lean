/-
  The document's answers of layer 13 (viaductref13): Add, upto, Sum, Right. Condition: numbers of 64 bits, eight priorities.
-/
import Derived.Test.YtmffmoflelnmoaaLedgM
import Derived.Test.YtmffmoflelnmoaaStepS
import Derived.Deep.CutBlock
namespace Go.Proofs.Ytmffmoflelnmoaa
set_option maxRecDepth 100000
set_option linter.unusedVariables false
open Go.RowKit

/-- The cells of a ledger. -/
def lgc (l : Lg) : List Value := .int .u64 (l.cap : Int) :: l.held.map (fun n => .int .u64 ((n : Nat) : Int))
theorem lgc_length {l : Lg} (h : LgOk l) : (lgc l).length = 9 := by unfold lgc; simp [h.1]
theorem lgc_cap (l : Lg) : (lgc l)[0]? = some (.int .u64 (l.cap : Int)) := rfl
theorem lgc_held {l : Lg} (h : LgOk l) {i : Nat} (hi : i < 8) : (lgc l)[1 + i]? = some (.int .u64 ((l.held.getD i 0 : Nat) : Int)) := by
  unfold lgc
  rw [Nat.add_comm, List.getElem?_cons_succ, List.getElem?_map, List.getD_eq_getElem?_getD, List.getElem?_eq_getElem (by rw [h.1]; exact hi)]
  rfl
theorem lgc_set (l : Lg) (i v : Nat) : lgc ⟨l.cap, l.held.set i v⟩ = (lgc l).set (1 + i) (.int .u64 (v : Int)) := by
  unfold lgc
  rw [Nat.add_comm, List.set_cons_succ, List.map_set]

/-- A sum, and whether it is one. -/
def aS (n : Nat) : Nat := if n < 18446744073709551616 then n else 0
def Two13 (n : Nat) (w : World) (e : Ending) (w' : World) : Prop := e = .returned (.tuple #[.int .u64 ((aS n : Nat) : Int), .bool (decide (n < 18446744073709551616))]) ∧ Below w.heap.size w w'

theorem radd13_calls (a b : Nat) (ha : a < 18446744073709551616) (hb : b < 18446744073709551616) (w : World) : Calls Try.prog 33 #[.int .u64 (a : Int), .int .u64 (b : Int)] w fun e w' => e = .returned (.tuple #[.int .u64 ((aS (a + b) : Nat) : Int), .bool (decide (a + b < 18446744073709551616))]) ∧ w' = w := by
  unfold aS
  have e1 : IntKind.u64.wrap (18446744073709551615 - (b : Int)) = 18446744073709551615 - (b : Int) := by rw [IntKind.wrap_u64]; omega
  by_cases h : a + b < 18446744073709551616
  · have h1 : ¬ (18446744073709551615 - (b : Int)) < (a : Int) := by omega
    have e2 : IntKind.u64.wrap ((a : Int) + (b : Int)) = ((a + b : Nat) : Int) := by rw [IntKind.wrap_u64]; omega
    rw [if_pos h, decide_eq_true h]
    generalize a + b = n at e2
    clear h
    go_enter Try.func33, Try.ntmps33
    go_wp2
    refine bodyPost_ret (v := .tuple #[.int .u64 (n : Int), .bool true]) (by simp [results, Try.results33, go_sem]) rfl ?_
    exact ⟨rfl, rfl⟩
  · have h1 : (18446744073709551615 - (b : Int)) < (a : Int) := by omega
    rw [if_neg h, decide_eq_false h]
    clear h
    go_enter Try.func33, Try.ntmps33
    go_wp2
    refine bodyPost_ret (v := .tuple #[.int .u64 0, .bool false]) (by simp [results, Try.results33, go_sem]) rfl ?_
    exact ⟨rfl, rfl⟩

theorem infoArrR : (Try.prog.info? 36).map (·.size) = some 8 := by kernel_rfl
/-- The cells of eight numbers. -/
def hlc (h : List Nat) : List Value := h.map (fun n => .int .u64 ((n : Nat) : Int))
theorem hlc_set (h : List Nat) (i v : Nat) : hlc (h.set i v) = (hlc h).set i (.int .u64 (v : Int)) := by unfold hlc; rw [List.map_set]
theorem hlc_length (h : List Nat) : (hlc h).length = h.length := by unfold hlc; simp
/-- Eight noughts. -/
def z8 : List Value := [.int .u64 0, .int .u64 0, .int .u64 0, .int .u64 0, .int .u64 0, .int .u64 0, .int .u64 0, .int .u64 0]
theorem hlc_one (h : List Nat) : ∀ u ∈ hlc h, u.oneCell' = true := by
  intro u hu
  unfold hlc at hu
  obtain ⟨n, _, rfl⟩ := List.mem_map.1 hu
  rfl
theorem lgc_one (l : Lg) : ∀ u ∈ lgc l, u.oneCell' = true := by
  intro u hu
  unfold lgc at hu
  rcases List.mem_cons.1 hu with rfl | hu
  · rfl
  · exact hlc_one l.held u hu
/-- Three blocks that were made one behind the other. -/
theorem alloc3 (w : World) (a b c : List Value) (T U V : TypeId) : Blk (((w.alloc (.cells a.toArray T)).alloc (.cells b.toArray U)).alloc (.cells c.toArray V)) w.heap.size T a ∧ Blk (((w.alloc (.cells a.toArray T)).alloc (.cells b.toArray U)).alloc (.cells c.toArray V)) (w.heap.size + 1) U b ∧
    Blk (((w.alloc (.cells a.toArray T)).alloc (.cells b.toArray U)).alloc (.cells c.toArray V)) (w.heap.size + 2) V c ∧ Below w.heap.size w (((w.alloc (.cells a.toArray T)).alloc (.cells b.toArray U)).alloc (.cells c.toArray V)) := by
  have s1 : (w.alloc (.cells a.toArray T)).heap.size = w.heap.size + 1 := Array.size_push _
  have s2 : ((w.alloc (.cells a.toArray T)).alloc (.cells b.toArray U)).heap.size = w.heap.size + 2 := (Array.size_push _).trans (by rw [s1])
  refine ⟨((Blk.new w T a).alloc _).alloc _, ?_, ?_, bel_new (bel_new (bel_new (Below.refl _ _) _) _) _⟩
  · have := (Blk.new (w.alloc (.cells a.toArray T)) U b).alloc (.cells c.toArray V)
    rwa [s1] at this
  · have := Blk.new ((w.alloc (.cells a.toArray T)).alloc (.cells b.toArray U)) V c
    rwa [s2] at this
theorem alloc2 (w : World) (a b : List Value) (T U : TypeId) : Blk ((w.alloc (.cells a.toArray T)).alloc (.cells b.toArray U)) w.heap.size T a ∧ Blk ((w.alloc (.cells a.toArray T)).alloc (.cells b.toArray U)) (w.heap.size + 1) U b ∧ Below w.heap.size w ((w.alloc (.cells a.toArray T)).alloc (.cells b.toArray U)) := by
  have s1 : (w.alloc (.cells a.toArray T)).heap.size = w.heap.size + 1 := Array.size_push _
  refine ⟨(Blk.new w T a).alloc _, ?_, bel_new (bel_new (Below.refl _ _) _) _⟩
  have := Blk.new (w.alloc (.cells a.toArray T)) U b
  rwa [s1] at this
/-- What is free, as far as it is told. -/
def frq (l : Lg) (i : Nat) : List Nat := (lFree l).take i ++ List.replicate (8 - i) 0
theorem frq_length (l : Lg) {i : Nat} (hi : i ≤ 8) : (frq l i).length = 8 := by unfold frq; simp [lFree_length]; omega
theorem frq_all (l : Lg) : frq l 8 = lFree l := by unfold frq; rw [List.take_of_length_le (by rw [lFree_length]; exact Nat.le_refl _)]; simp
theorem frq_next (l : Lg) {i : Nat} (hi : i < 8) : frq l (i + 1) = (frq l i).set i ((lFree l).getD i 0) := by
  unfold frq
  have hl : ((lFree l).take i).length = i := by rw [List.length_take, lFree_length]; omega
  rw [List.set_append_right _ _ (by omega), hl, Nat.sub_self, show 8 - i = (8 - (i + 1)) + 1 by omega, List.replicate_succ, List.set_cons_zero, List.take_add_one, List.getD_eq_getElem?_getD, List.getElem?_eq_getElem (by rw [lFree_length]; exact hi), Option.toList_some, List.append_assoc]
  rfl
theorem frq_same (l : Lg) {i : Nat} (hi : i < 8) (h0 : (lFree l).getD i 0 = 0) : frq l (i + 1) = frq l i := by
  rw [frq_next l hi, h0]
  unfold frq
  have hl : ((lFree l).take i).length = i := by rw [List.length_take, lFree_length]; omega
  rw [List.set_append_right _ _ (by omega), hl, Nat.sub_self, show 8 - i = (8 - (i + 1)) + 1 by omega, List.replicate_succ, List.set_cons_zero]
end Go.Proofs.Ytmffmoflelnmoaa
