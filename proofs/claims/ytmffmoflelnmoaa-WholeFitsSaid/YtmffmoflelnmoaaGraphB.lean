/-
  Contracts of package graph: firsts, the function that it returns, Check. Condition: at most 2^40 links.
-/
import Derived.Test.YtmffmoflelnmoaaGraphA
import Derived.Test.YtmffmoflelnmoaaMapI
import Derived.DeepKeys4
import Derived.Shelf.Abstract
import Derived.Laws.EntriesVeiled
namespace Go.Proofs.Ytmffmoflelnmoaa
set_option maxRecDepth 100000
open Go.RowKit Go.Maps

/-- A key, as the map reads it. -/
def ekey (x : Lk) : Lit := .string (keyBytes [.int .i64 x.f, .int .i64 x.t])
/-- Both ends are whole numbers of the language. -/
def WfE (x : Lk) : Prop := (Lit.int .i64 x.f).wf = true ∧ (Lit.int .i64 x.t).wf = true
/-- Have two links the same ends? -/
def sameE (x y : Lk) : Bool := x.f == y.f && x.t == y.t
theorem sameE_iff (x y : Lk) : sameE x y = true ↔ x.f = y.f ∧ x.t = y.t := by simp [sameE]
theorem ekey_same {x y : Lk} (h : x.f = y.f ∧ x.t = y.t) : ekey x = ekey y := by unfold ekey; rw [h.1, h.2]

/-- May these be the links of n nodes? -/
def netB (n : Int) (L : List Lk) : Bool := L.all (vld n) && decide (L.Pairwise (fun x y => sameE y x = false))
def chk (n : Int) (L : List Lk) : Int := if 1 ≤ n ∧ n ≤ 16 then (if 64 < L.length then 3 else if netB n L = true then 0 else 2) else 2
theorem vld_wf {n : Int} {x : Lk} (hn : n ≤ 16) (h : vld n x = true) : WfE x := by
  simp only [vld, gwn, Bool.and_eq_true, decide_eq_true_eq] at h
  exact ⟨WalkArith.wf_i64 (by omega), WalkArith.wf_i64 (by omega)⟩
theorem net_take {n : Int} {L : List Lk} {i : Nat} (hi : i < L.length) (h : netB n (L.take i) = true) (hv : vld n L[i] = true) (hs : (L.take i).any (sameE L[i]) = false) : netB n (L.take (i + 1)) = true := by
  simp only [netB, Bool.and_eq_true, List.all_eq_true, decide_eq_true_eq] at h ⊢
  rw [List.take_succ_eq_append_getElem hi]
  refine ⟨fun x hx => ?_, List.pairwise_append.2 ⟨h.2, by simp, fun x hx y hy => ?_⟩⟩
  · rcases List.mem_append.1 hx with hx | hx
    · exact h.1 x hx
    · simp at hx; rw [hx]; exact hv
  · simp at hy; subst hy
    simpa using List.any_eq_false.1 hs x hx
theorem net_bad {n : Int} {L : List Lk} {i : Nat} (hi : i < L.length) (h : vld n L[i] = false ∨ (L.take i).any (sameE L[i]) = true) : netB n L = false := by
  rw [Bool.eq_false_iff]
  intro hc
  simp only [netB, Bool.and_eq_true, List.all_eq_true, decide_eq_true_eq] at hc
  rcases h with h | h
  · rw [hc.1 _ (List.getElem_mem hi)] at h; cases h
  · obtain ⟨x, hx, hs⟩ := List.any_eq_true.1 h
    obtain ⟨k, hk, rfl⟩ := List.mem_iff_getElem.1 hx
    have hk' : k < i ∧ k < L.length := Nat.lt_min.1 (by simpa using hk)
    have := List.pairwise_iff_getElem.1 hc.2 k i hk'.2 hi hk'.1
    rw [List.getElem_take] at hs
    rw [this] at hs; cases hs

end Go.Proofs.Ytmffmoflelnmoaa
