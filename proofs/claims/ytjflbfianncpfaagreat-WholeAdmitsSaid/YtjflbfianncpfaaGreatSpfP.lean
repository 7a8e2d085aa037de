/-
  Routes, plain: what layer 9 calls a route is one here, and costs the same; what can be come to has a route; the beginnings of a best route. No condition.
-/
import Derived.Test.YtjflbfianncpfaaGreatSpfMO
import Derived.Test.YtjflbfianncpfaaGreatGraphDL
namespace Go.Proofs.YtjflbfianncpfaaGreat
set_option maxRecDepth 100000

/-- No two links have the same ends. -/
def Apart (L : List Lk) : Prop := L.Pairwise (fun x y => sameE y x = false)
theorem apart_of_chk {n : Int} {L : List Lk} (h : chk n L = 0) : Apart L := by
  unfold chk at h
  split at h
  · split at h
    · omega
    · split at h
      · rename_i h3
        simp only [netB, Bool.and_eq_true, decide_eq_true_eq] at h3
        exact h3.2
      · omega
  · omega
section
variable {n : Int} {L : List Lk} {a x c : Int} {r : List Int}
theorem apart_same (h : Apart L) {i j : Nat} (hi : i < L.length) (hj : j < L.length) (he : sameE L[i] L[j] = true) : i = j := by
  rcases Nat.lt_trichotomy i j with h1 | h1 | h1
  · have := (List.pairwise_iff_getElem.1 h) i j hi hj h1
    have h2 : sameE L[j] L[i] = true := (sameE_iff _ _).2 ⟨((sameE_iff _ _).1 he).1.symm, ((sameE_iff _ _).1 he).2.symm⟩
    rw [h2] at this; cases this
  · exact h1
  · have := (List.pairwise_iff_getElem.1 h) j i hj hi h1
    rw [he] at this; cases this
/-- The link that is found is the link. -/
theorem find_link (h : Apart L) {z : Lk} (hz : z ∈ L) : 0 ≤ fndL L z.f z.t ∧ mtr L z.f z.t = z.m := by
  obtain ⟨j, hj, rfl⟩ := List.mem_iff_getElem.1 hz
  rcases fndL_cases L L[j].f L[j].t with ⟨_, h2⟩ | ⟨i, hi, h1, h2⟩
  · have := h2 _ hz
    simp [isE] at this
  · have he : sameE L[i] L[j] = true := by
      simp [isE] at h2
      exact (sameE_iff _ _).2 h2
    have := apart_same h hi hj he
    subst this
    refine ⟨by omega, ?_⟩
    unfold mtr
    rw [h1]
    simp [List.getD_eq_getElem?_getD, hi]
theorem getD_front {s : List Int} {t : Int} {j : Nat} (h : j < s.length) : (s ++ [t]).getD j 0 = s.getD j 0 := by
  simp [List.getD_eq_getElem?_getD, List.getElem?_append_left h]
theorem getD_end {s : List Int} {t : Int} : (s ++ [t]).getD s.length 0 = t := by simp [List.getD_eq_getElem?_getD]
theorem Wy.at0 (h : Wy L a x c r) : r.getD 0 0 = a := by obtain ⟨s, rfl⟩ := h.first; rfl
theorem Wy.atEnd (h : Wy L a x c r) : r.getD (r.length - 1) 0 = x := by
  obtain ⟨s, rfl⟩ := h.last
  simp
/-- A route's steps, and what they cost. -/
theorem Wy.steps (hA : Apart L) (h : Wy L a x c r) : (∀ j, 1 ≤ j → j < r.length → StepOk L r j) ∧ cst L r r.length = c := by
  induction h with
  | one => exact ⟨fun j h1 h2 => by simp at h2; omega, rfl⟩
  | ext z hw hz hf hn ih =>
    rename_i x0 c0 r0
    have hlen := hw.len
    have hend := hw.atEnd
    have hfl := find_link hA hz
    have h0 : (r0 ++ [z.t]).take r0.length = r0 := List.take_left
    refine ⟨fun j h1 h2 => ?_, ?_⟩
    · rw [List.length_append, List.length_singleton] at h2
      by_cases hj : j < r0.length
      · have := ih.1 j h1 hj
        unfold StepOk at this ⊢
        rw [getD_front hj, getD_front (by omega), List.take_append_of_le_length (by omega)]
        exact this
      · obtain rfl : j = r0.length := by omega
        unfold StepOk
        rw [getD_end, getD_front (by omega), hend, ← hf, h0]
        exact ⟨hfl.1, hn⟩
    · obtain ⟨m, hm⟩ : ∃ m, r0.length = m + 1 := ⟨r0.length - 1, by omega⟩
      rw [List.length_append, List.length_singleton, hm]
      show cst L (r0 ++ [z.t]) (m + 1) + mtr L ((r0 ++ [z.t]).getD m 0) ((r0 ++ [z.t]).getD (m + 1) 0) = c0 + z.m
      have h1 := cst_take L (r0 ++ [z.t]) r0.length (m + 1) (by omega)
      rw [h0, ← hm, ih.2] at h1
      rw [← hm, ← h1, getD_end, getD_front (by omega)]
      have h2 : r0.getD m 0 = z.f := by
        rw [hf, ← hend, hm]; simp
      rw [h2, hfl.2]
theorem Wy.route (hA : Apart L) (h : Wy L a x c r) (h2 : 2 ≤ r.length) (h16 : r.length ≤ 16) : RouteOk L r ∧ cst L r r.length = c := ⟨⟨h2, h16, (h.steps hA).1⟩, (h.steps hA).2⟩
/-- What layer 9 calls a route is one. -/
theorem route_wy (h : RouteOk L r) : ∀ k, k < r.length → Wy L (r.getD 0 0) (r.getD k 0) (cst L r (k + 1)) (r.take (k + 1)) := by
  intro k
  induction k with
  | zero =>
    intro hk
    obtain ⟨y, s, rfl⟩ : ∃ y s, r = y :: s := by
      cases r with
      | nil => simp at hk
      | cons y s => exact ⟨y, s, rfl⟩
    exact .one
  | succ k ih =>
    intro hk
    have hw := ih (by omega)
    have hs := h.2.2 (k + 1) (by omega) hk
    unfold StepOk at hs
    rw [Nat.add_sub_cancel] at hs
    rcases fndL_cases L (r.getD k 0) (r.getD (k + 1) 0) with ⟨h1, _⟩ | ⟨i, hi, h1, h2⟩
    · omega
    · simp [isE] at h2
      have e1 : L[i].f = r.getD k 0 := by simpa [List.getD_eq_getElem?_getD] using h2.1
      have e2 : L[i].t = r.getD (k + 1) 0 := by simpa [List.getD_eq_getElem?_getD] using h2.2
      have hm : mtr L (r.getD k 0) (r.getD (k + 1) 0) = L[i].m := by
        unfold mtr
        rw [h1]
        simp [List.getD_eq_getElem?_getD, hi]
      have hx := Wy.ext (L := L) L[i] hw (List.getElem_mem hi) e1 (by rw [e2]; exact hs.2)
      rw [e2] at hx
      have ht : r.take (k + 1 + 1) = r.take (k + 1) ++ [r.getD (k + 1) 0] := by
        rw [List.take_add_one, List.getElem?_eq_getElem hk]
        simp [List.getD_eq_getElem?_getD, hk]
      rw [ht]
      show Wy L (r.getD 0 0) (r.getD (k + 1) 0) (cst L r (k + 1) + mtr L (r.getD k 0) (r.getD (k + 1) 0)) _
      rw [hm]
      exact hx
theorem route_wy_all (h : RouteOk L r) : Wy L (r.getD 0 0) (r.getD (r.length - 1) 0) (cst L r r.length) r := by
  have h2 := h.1
  have := route_wy h (r.length - 1) (by omega)
  rw [show r.length - 1 + 1 = r.length by omega, List.take_length] at this
  exact this
theorem wy_rch (h : Wy L a x c r) : Rch L a x := by
  induction h with
  | one => exact .refl
  | ext z _ hz hf _ ih => subst hf; exact .step ih hz
theorem rch_wy (hL : NetOk n L) (h : Rch L a x) : ∃ c r, Wy L a x c r := by
  induction h with
  | refl => exact ⟨0, [a], .one⟩
  | step h hz ih =>
    rename_i z
    obtain ⟨c, r, hw⟩ := ih
    by_cases ht : z.t ∈ r
    · by_cases he : z.t = z.f
      · rw [he]; exact ⟨c, r, hw⟩
      · obtain ⟨c', r', h1, _⟩ := hw.front hL z.t ht he
        exact ⟨c', r', h1⟩
    · exact ⟨_, _, .ext z hw hz rfl ht⟩
/-- Beginnings of a best route are best ones, and cost less. -/
theorem best_parts (hL : NetOk n L) : ∀ (m : Nat) {x c : Int} {r : List Int}, r.length = m → BestW L a x c r → ∀ i, i < r.length → ∃ ci, BestW L a (r.getD i 0) ci (r.take (i + 1)) ∧ ci ≤ c ∧ (i + 1 < r.length → ci < c) ∧ (i + 1 = r.length → ci = c) := by
  intro m
  induction m with
  | zero => intro x c r hm h; have := h.1.len; omega
  | succ m ih =>
    intro x c r hm h i hi
    by_cases hl : i + 1 = r.length
    · refine ⟨c, ?_, Int.le_refl _, fun h2 => by omega, fun _ => rfl⟩
      have h1 := h.1.atEnd
      rw [show r.length - 1 = i by omega] at h1
      rw [h1, hl, List.take_length]
      exact h
    · rcases best_cases hL h with ⟨rfl, rfl, rfl⟩ | ⟨z, c0, r0, hz, rfl, rfl, rfl, hn, hb⟩
      · simp at hi hl; omega
      · have hl0 : r0.length = m := by simp at hm; exact hm
        have hi0 : i < r0.length := by simp at hi hl; omega
        have hm := hL z hz
        obtain ⟨ci, h1, h2, _, _⟩ := ih hl0 hb i hi0
        refine ⟨ci, ?_, by omega, fun _ => by omega, fun h3 => absurd h3 hl⟩
        rw [getD_front hi0, List.take_append_of_le_length (by omega)]
        exact h1
end
end Go.Proofs.YtjflbfianncpfaaGreat
