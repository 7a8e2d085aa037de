/-
  Whatever a search is: blocks and their types, slices that stay when blocks of other types turn, a measure that lies in no memory. No condition.
-/
import Derived.Test.YtjflbfianncpfaaGreatHeapQ
import Derived.Test.YtjflbfianncpfaaGreatGraphAC
namespace Go.Proofs.YtjflbfianncpfaaGreat
set_option maxRecDepth 100000
set_option linter.unusedVariables false
open Go.RowKit

/-- A slice of a slice of slices, as one value. -/
structure Rs where
  a : Option Addr
  n : Nat
  c : Nat
def rv (x : Rs) : Value := .slice x.a x.n x.c
/-- The type of a block's cells. -/
def tyAt (w : World) (g : Nat) : Option TypeId := match w.heap[g]? with
  | some (.cells _ T _) => some T
  | _ => none
theorem Blk.ty {w : World} {q : Nat} {T : TypeId} {vs : List Value} (h : Blk w q T vs) : tyAt w q = some T := by unfold tyAt; unfold Blk at h; rw [h]
section
variable {α : Type} {enc : α → List Value} {k : Nat} {w w' : World} {base c : Nat} {T : TypeId} {A : Option Addr} {l : List α}
theorem accr_ty (h : AccR enc k w base T A c l) {x : Nat} (hx : blk A = some x) : tyAt w x = some T := by
  rcases h.2 with ⟨hv, _⟩ | ⟨g, cap, cur, hv, _, hh, _⟩
  · injection hv with e1 _ _
    subst e1
    simp [blk] at hx
  · injection hv with e1 _ _
    subst e1
    simp [blk] at hx
    subst hx
    unfold tyAt
    rw [hh]
theorem accr_off11 (h : AccR enc k w base T A c l) {S : List Nat} (ht : Turn S w w') (hS : ∀ x, blk A = some x → x ∉ S) : AccR enc k w' base T A c l := by
  obtain ⟨h1, h2⟩ := h
  refine ⟨h1, ?_⟩
  rcases h2 with h2 | ⟨g, cap, cur, hv, hg, hb, r⟩
  · exact .inl h2
  · have hgl : g < w.heap.size := (Array.getElem?_eq_some_iff.1 hb).1
    have e : blk A = some g := by injection hv with e _ _; rw [e]; rfl
    exact .inr ⟨g, cap, cur, hv, hg, (ht.block g hgl (hS g e)).trans hb, r⟩
end

section
variable {w0 w w' : World} {g g' : Nat} {Q Q' : List Itm}
/-- The types of the queue's blocks. -/
theorem Qe.ty {base q p : Nat} (h : Qe w base q p g Q) : tyAt w q = some 124 ∧ tyAt w p = some 146 ∧ tyAt w g = some 88 := by
  obtain ⟨c, f, h1, _⟩ := h.items
  exact ⟨h.head.ty, h1.head.ty, accr_ty h1.row rfl⟩
theorem ne_ty {x y : Nat} {T T' : TypeId} (h : tyAt w x = some T) (h' : tyAt w y = some T') (hne : T ≠ T') : x ≠ y := by
  intro e
  subst e
  rw [h] at h'
  injection h' with e
  exact hne e
theorem turn_more {S T : List Nat} (h : Turn S w w') (hs : ∀ x ∈ S, x ∈ T) : Turn T w w' := ⟨h.os, h.tape, h.output, h.size, fun k hk hn => h.block k hk (fun hm => hn (hs k hm))⟩
end

/-- A measure that lies in no memory: the least number for which something holds. -/
theorem least_of {α : Type} (R : Nat → α → Prop) : ∃ f : α → Nat, ∀ x, (∃ m, R m x) → R (f x) x ∧ ∀ m, R m x → f x ≤ m := by
  have step : ∀ x, ∃ k : Nat, (∃ m, R m x) → R k x ∧ ∀ m, R m x → k ≤ m := by
    intro x
    have key : ∀ m, R m x → ∃ k, R k x ∧ ∀ m', R m' x → k ≤ m' := by
      intro m
      induction m using Nat.strongRecOn with
      | ind m ih =>
        intro hm
        by_cases h : ∃ m', m' < m ∧ R m' x
        · obtain ⟨m', h1, h2⟩ := h
          exact ih m' h1 h2
        · exact ⟨m, hm, fun m' hm' => by
            rcases Nat.lt_or_ge m' m with h1 | h1
            · exact absurd ⟨m', h1, hm'⟩ h
            · exact h1⟩
    by_cases h : ∃ m, R m x
    · obtain ⟨m, hm⟩ := h
      obtain ⟨k, h1, h2⟩ := key m hm
      exact ⟨k, fun _ => ⟨h1, h2⟩⟩
    · exact ⟨0, fun h' => absurd h' h⟩
  exact Classical.axiomOfChoice step

end Go.Proofs.YtjflbfianncpfaaGreat
