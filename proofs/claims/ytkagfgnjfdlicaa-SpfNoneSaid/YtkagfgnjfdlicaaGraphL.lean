/-
  A route that is cut into two, plain: both are routes, and cost what it costs; all its nodes can be come to. No condition.
-/
import Derived.Test.YtkagfgnjfdlicaaGraphI
import Derived.Test.YtkagfgnjfdlicaaGraphS
namespace Go.Proofs.Ytkagfgnjfdlicaa
set_option maxRecDepth 100000
open Go.RowKit

theorem getD_take {r : List Int} {k j : Nat} (h : j < k) : (r.take k).getD j 0 = r.getD j 0 := by
  simp [List.getD_eq_getElem?_getD, List.getElem?_take_of_lt h]
theorem getD_drop {r : List Int} {k j : Nat} : (r.drop k).getD j 0 = r.getD (k + j) 0 := by
  simp [List.getD_eq_getElem?_getD]
theorem cst_take (L : List Lk) (r : List Int) (k : Nat) : ∀ i, i ≤ k → cst L (r.take k) i = cst L r i
  | 0, _ => rfl
  | 1, _ => rfl
  | i + 2, h => by
    have ih := cst_take L r k (i + 1) (by omega)
    simp only [cst]
    rw [ih, getD_take (by omega), getD_take (by omega)]
theorem cst_drop (L : List Lk) (r : List Int) (k : Nat) : ∀ i, cst L r (k + i + 1) = cst L r (k + 1) + cst L (r.drop k) (i + 1)
  | 0 => by simp [cst]
  | i + 1 => by
    have ih := cst_drop L r k i
    show cst L r (k + i + 2) = cst L r (k + 1) + cst L (r.drop k) (i + 2)
    simp only [cst]
    rw [ih, getD_drop, getD_drop]
    rw [show k + (i + 1) = k + i + 1 by omega]
    omega
theorem RouteOk.front {L : List Lk} {r : List Int} (h : RouteOk L r) {k : Nat} (h1 : 1 ≤ k) (h2 : k + 1 ≤ r.length) : RouteOk L (r.take (k + 1)) := by
  have hl : (r.take (k + 1)).length = k + 1 := by rw [List.length_take]; omega
  have h16 := h.2.1
  refine ⟨by omega, by omega, fun j hj1 hj2 => ?_⟩
  rw [hl] at hj2
  have := h.2.2 j hj1 (by omega)
  unfold StepOk at this ⊢
  rw [getD_take (by omega), getD_take hj2, List.take_take, Nat.min_eq_left (by omega)]
  exact this
theorem RouteOk.back {L : List Lk} {r : List Int} (h : RouteOk L r) {k : Nat} (h2 : k + 2 ≤ r.length) : RouteOk L (r.drop k) := by
  have hl : (r.drop k).length = r.length - k := by rw [List.length_drop]
  have h16 := h.2.1
  refine ⟨by omega, by omega, fun j hj1 hj2 => ?_⟩
  rw [hl] at hj2
  have := h.2.2 (k + j) (by omega) (by omega)
  unfold StepOk at this ⊢
  rw [getD_drop, getD_drop, show k + (j - 1) = k + j - 1 by omega]
  refine ⟨this.1, fun hm => this.2 ?_⟩
  obtain ⟨i, hi, he⟩ := List.mem_take_iff_getElem.1 hm
  rw [hl] at hi
  rw [← he, List.getElem_drop]
  exact List.mem_take_iff_getElem.2 ⟨k + i, by omega, rfl⟩
theorem step_link {L : List Lk} {r : List Int} {j : Nat} (h : StepOk L r j) : ∃ x ∈ L, x.f = r.getD (j - 1) 0 ∧ x.t = r.getD j 0 := by
  rcases fndL_cases L (r.getD (j - 1) 0) (r.getD j 0) with ⟨hf, _⟩ | ⟨i, hi, hf, hy⟩
  · have := h.1
    omega
  · refine ⟨L[i], List.getElem_mem hi, ?_⟩
    simpa [isE] using hy
theorem route_reach {L : List Lk} {r : List Int} (h : RouteOk L r) : ∀ j, j < r.length → Rch L (r.getD 0 0) (r.getD j 0)
  | 0, _ => Rch.refl
  | j + 1, hj => by
    have ih := route_reach h j (by omega)
    obtain ⟨x, hx, h1, h2⟩ := step_link (h.2.2 (j + 1) (by omega) hj)
    rw [Nat.add_sub_cancel] at h1
    rw [← h2]
    rw [← h1] at ih
    exact ih.step hx
theorem route_in {n : Nat} {L : List Lk} {r : List Int} (h : RouteOk L r) (hE : EndsIn n L) (j : Nat) (hj : j < r.length) : 0 ≤ r.getD j 0 ∧ r.getD j 0 < (n : Int) := by
  have h2 := h.1
  rcases Nat.eq_zero_or_pos j with h0 | h0
  · subst h0
    obtain ⟨x, hx, h1, _⟩ := step_link (h.2.2 1 (Nat.le_refl _) (by omega))
    have := hE x hx
    rw [← h1]; omega
  · obtain ⟨x, hx, _, h1⟩ := step_link (h.2.2 j h0 hj)
    have := hE x hx
    rw [← h1]; omega
theorem row_back {w : World} {B n b o : Nat} {l : List Int} (h : Row ei w B (some ⟨b, o, none⟩) n l) (i : Nat) (hi : i ≤ n) : Row ei w B (some ⟨b, o + i, none⟩) (n - i) (l.drop i) := by
  have := h.rest ei_length i hi
  rwa [Nat.mul_one] at this
end Go.Proofs.Ytkagfgnjfdlicaa
