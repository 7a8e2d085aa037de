/-
  Contracts of package graph: within, isNode, endsOf, valid; links as plain data and as they lie in memory. No condition beside what each names.
  Contracts of package graph: firsts, the function that it returns, Check. Condition: at most 2^40 links.
  Contracts of package graph: Find; slices.IndexFunc, slices.Index, slices.Contains as they are used there. Condition: at most 2^40 links or numbers.
-/
import Derived.Test.YtogijfebfffobaaBase
import Derived.LoopN
import Derived.DeepKeys4
import Derived.Shelf.Abstract
import Derived.Laws.EntriesVeiled
namespace Go.Proofs.Ytogijfebfffobaa
set_option maxRecDepth 100000
open Go.RowKit

/-- A link as plain data. -/
structure Lk where
  f : Int
  t : Int
  c : Int
  m : Int
  g : Int
  deriving DecidableEq, Inhabited
/-- .. and its cells. -/
def lkc (x : Lk) : List Value := [.int .i64 x.f, .int .i64 x.t, .int .u64 x.c, .int .i64 x.m, .int .u32 x.g]
theorem lkc_length (x : Lk) : (lkc x).length = 5 := rfl
theorem lkc_one (x : Lk) : ∀ u ∈ lkc x, u.oneCell' = true := by
  intro u hu
  simp [lkc] at hu
  rcases hu with rfl | rfl | rfl | rfl | rfl <;> rfl
/-- A link in a row. -/
theorem row_link {w : World} {B n : Nat} {a : Option Addr} {L : List Lk} (h : Row lkc w B a n L) (hn : 0 < n) : ∃ b o : Nat, a = some ⟨b, o, none⟩ ∧ b < B ∧ ∀ (i : Nat) (hi : i < L.length), w.rangeAt b (o + i * 5) (lkc L[i]) := by
  obtain ⟨b, o, e, hb, hc⟩ := h.cells lkc_length hn
  refine ⟨b, o, e, hb, fun i hi j v hv => ?_⟩
  have hj : j < 5 := by
    rcases Nat.lt_or_ge j 5 with h | h
    · exact h
    · rw [List.getElem?_eq_none (by rw [lkc_length]; exact h)] at hv; cases hv
  rw [hc i hi j hj]; exact hv
theorem link_cells {w : World} {b k : Nat} {x : Lk} (h : w.rangeAt b k (lkc x)) : w.cell? ⟨b, k, none⟩ = some (.int .i64 x.f) ∧ w.cell? ⟨b, k + 1, none⟩ = some (.int .i64 x.t) ∧ w.cell? ⟨b, k + 2, none⟩ = some (.int .u64 x.c) ∧ w.cell? ⟨b, k + 3, none⟩ = some (.int .i64 x.m) ∧ w.cell? ⟨b, k + 4, none⟩ = some (.int .u32 x.g) :=
  ⟨h 0 _ rfl, h 1 _ rfl, h 2 _ rfl, h 3 _ rfl, h 4 _ rfl⟩

def gwn (x lo hi : Int) : Bool := decide (lo ≤ x) && decide (x ≤ hi)
/-- The link's ends as a value. -/
def ev (x : Lk) : Value := .agg #[.int .i64 x.f, .int .i64 x.t]
/-- May a link be, whatever the others are? -/
def vld (n : Int) (x : Lk) : Bool := gwn x.f 0 (n - 1) && gwn x.t 0 (n - 1) && !(x.f == x.t) && gwn x.m 1 65535
end Go.Proofs.Ytogijfebfffobaa

namespace Go.Proofs.Ytogijfebfffobaa
set_option maxRecDepth 100000
open Go.RowKit Go.Maps

/-- A key, as the map reads it. -/
def ekey (x : Lk) : Lit := .string (keyBytes [.int .i64 x.f, .int .i64 x.t])
/-- Both ends are whole numbers of the language. -/
def WfE (x : Lk) : Prop := (Lit.int .i64 x.f).wf = true ∧ (Lit.int .i64 x.t).wf = true
/-- Have two links the same ends? -/
def sameE (x y : Lk) : Bool := x.f == y.f && x.t == y.t
theorem sameE_iff (x y : Lk) : sameE x y = true ↔ x.f = y.f ∧ x.t = y.t := by simp [sameE]
theorem ekey_same {x y : Lk} (h : x.f = y.f ∧ x.t = y.t) : ekey x = ekey y := by unfold ekey; rw [h.1, h.2]

/-- May these be the links of n nodes? -/
def netB (n : Int) (L : List Lk) : Bool := L.all (vld n) && decide (L.Pairwise (fun x y => sameE y x = false))
def chk (n : Int) (L : List Lk) : Int := if 1 ≤ n ∧ n ≤ 16 then (if 64 < L.length then 3 else if netB n L = true then 0 else 2) else 2
theorem vld_wf {n : Int} {x : Lk} (hn : n ≤ 16) (h : vld n x = true) : WfE x := by
  simp only [vld, gwn, Bool.and_eq_true, decide_eq_true_eq] at h
  exact ⟨WalkArith.wf_i64 (by omega), WalkArith.wf_i64 (by omega)⟩
theorem net_take {n : Int} {L : List Lk} {i : Nat} (hi : i < L.length) (h : netB n (L.take i) = true) (hv : vld n L[i] = true) (hs : (L.take i).any (sameE L[i]) = false) : netB n (L.take (i + 1)) = true := by
  simp only [netB, Bool.and_eq_true, List.all_eq_true, decide_eq_true_eq] at h ⊢
  rw [List.take_succ_eq_append_getElem hi]
  refine ⟨fun x hx => ?_, List.pairwise_append.2 ⟨h.2, by simp, fun x hx y hy => ?_⟩⟩
  · rcases List.mem_append.1 hx with hx | hx
    · exact h.1 x hx
    · simp at hx; rw [hx]; exact hv
  · simp at hy; subst hy
    simpa using List.any_eq_false.1 hs x hx
theorem net_bad {n : Int} {L : List Lk} {i : Nat} (hi : i < L.length) (h : vld n L[i] = false ∨ (L.take i).any (sameE L[i]) = true) : netB n L = false := by
  rw [Bool.eq_false_iff]
  intro hc
  simp only [netB, Bool.and_eq_true, List.all_eq_true, decide_eq_true_eq] at hc
  rcases h with h | h
  · rw [hc.1 _ (List.getElem_mem hi)] at h; cases h
  · obtain ⟨x, hx, hs⟩ := List.any_eq_true.1 h
    obtain ⟨k, hk, rfl⟩ := List.mem_iff_getElem.1 hx
    have hk' : k < i ∧ k < L.length := Nat.lt_min.1 (by simpa using hk)
    have := List.pairwise_iff_getElem.1 hc.2 k i hk'.2 hi hk'.1
    rw [List.getElem_take] at hs
    rw [this] at hs; cases hs

end Go.Proofs.Ytogijfebfffobaa

namespace Go.Proofs.Ytogijfebfffobaa
set_option maxRecDepth 100000
open Go.RowKit

/-- Does a link lead from one node to another one? -/
def isE (f t : Int) (x : Lk) : Bool := x.f == f && x.t == t
/-- The first link from a node to another one. -/
def fndL (L : List Lk) (f t : Int) : Int := match L.findIdx? (isE f t) with | some i => (i : Int) | none => -1
theorem fndL_hit {L : List Lk} {f t : Int} {i : Nat} (hi : i < L.length) (hb : ∀ k (hk : k < L.length), k < i → isE f t L[k] = false) (h : isE f t L[i] = true) : fndL L f t = (i : Int) := by
  unfold fndL
  rw [List.findIdx?_eq_some_iff_getElem.2 ⟨hi, h, fun j hj => by have := hb j (by omega) hj; simp [this]⟩]
theorem fndL_none {L : List Lk} {f t : Int} (h : ∀ k (hk : k < L.length), isE f t L[k] = false) : fndL L f t = -1 := by
  unfold fndL
  rw [List.findIdx?_eq_none_iff.2 (fun x hx => by obtain ⟨k, hk, rfl⟩ := List.mem_iff_getElem.1 hx; exact h k hk)]
theorem fndL_cases (L : List Lk) (f t : Int) : (fndL L f t = -1 ∧ ∀ x ∈ L, isE f t x = false) ∨ ∃ i : Nat, ∃ hi : i < L.length, fndL L f t = (i : Int) ∧ isE f t L[i] = true := by
  unfold fndL
  cases h : L.findIdx? (isE f t) with
  | none => exact .inl ⟨rfl, List.findIdx?_eq_none_iff.1 h⟩
  | some i =>
    obtain ⟨hi, h1, _⟩ := List.findIdx?_eq_some_iff_getElem.1 h
    exact .inr ⟨i, hi, rfl, h1⟩

end Go.Proofs.Ytogijfebfffobaa
