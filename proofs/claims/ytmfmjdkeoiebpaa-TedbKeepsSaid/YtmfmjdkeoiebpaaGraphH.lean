/-
  The document's Has, and whether two lists of numbers are the same; a node's links are fixed by what they must be. Condition: at most 2^40 numbers.
-/
import Derived.Test.YtmfmjdkeoiebpaaGraphD
namespace Go.Proofs.Ytmfmjdkeoiebpaa
set_option maxRecDepth 100000
open Go.RowKit

theorem row_int {w : World} {B n : Nat} {a : Option Addr} {l : List Int} (h : Row ei w B a n l) (hn : 0 < n) : ∃ b o : Nat, a = some ⟨b, o, none⟩ ∧ b < B ∧ ∀ (i : Nat) (hi : i < l.length), w.cell? ⟨b, o + i, none⟩ = some (.int .i64 l[i]) := by
  obtain ⟨b, o, e, hb, hc⟩ := h.cells ei_length hn
  refine ⟨b, o, e, hb, fun i hi => ?_⟩
  have := hc i hi 0 (by omega)
  rw [Nat.mul_one, Nat.add_zero] at this
  exact this
/-- Two lists in one strict order that have the same members are the same. -/
theorem ordered_unique {R : Int → Int → Prop} (hirr : ∀ x, ¬ R x x) (hasym : ∀ x y, R x y → ¬ R y x) : ∀ {l k : List Int}, l.Pairwise R → k.Pairwise R → (∀ x, x ∈ l ↔ x ∈ k) → l = k
  | [], [], _, _, _ => rfl
  | [], y :: k, _, _, h => absurd ((h y).2 (by simp)) (by simp)
  | x :: l, [], _, _, h => absurd ((h x).1 (by simp)) (by simp)
  | x :: l, y :: k, hl, hk, h => by
    have h1 := List.pairwise_cons.1 hl
    have h2 := List.pairwise_cons.1 hk
    have hxy : x = y := by
      rcases List.mem_cons.1 ((h x).1 (by simp)) with e | e
      · exact e
      · rcases List.mem_cons.1 ((h y).2 (by simp)) with e2 | e2
        · exact e2.symm
        · exact absurd (h1.1 y e2) (hasym _ _ (h2.1 x e))
    subst hxy
    rw [ordered_unique hirr hasym h1.2 h2.2 (fun z => ?_)]
    constructor
    · intro hz
      rcases List.mem_cons.1 ((h z).1 (by simp [hz])) with e | e
      · subst e; exact absurd (h1.1 z hz) (hirr z)
      · exact e
    · intro hz
      rcases List.mem_cons.1 ((h z).2 (by simp [hz])) with e | e
      · subst e; exact absurd (h2.1 z hz) (hirr z)
      · exact e
theorem outs_unique {L : List Lk} {node : Int} {o o' : List Int} (h : OutsOk L node o) (h' : OutsOk L node o') : o = o' :=
  ordered_unique (R := fun x y => keyT L x < keyT L y ∨ keyT L x = keyT L y ∧ x < y) (fun x => by omega) (fun x y => by omega) h.order h'.order (fun x => (h.mem x).trans (h'.mem x).symm)
end Go.Proofs.Ytmfmjdkeoiebpaa
