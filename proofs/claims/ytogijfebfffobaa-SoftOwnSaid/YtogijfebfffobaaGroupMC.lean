/-
  What is wanted of links, plain: groups as bits of numbers; which links a want allows, which want asks no more than another one. No condition.
  The document's answers of layer 12 (viaductref12). Condition: groups are numbers of 32 bits.
  The document's answers of layer 12 (viaductref12): Allows, Right, Covers. Condition: groups are numbers of 32 bits.
  The code of layer 12 (group): has, coversAny, Allows, Right, Covers, and what the laws ask first of all. Condition: groups are numbers of 32 bits.
-/
import Derived.Test.YtogijfebfffobaaBase
import Derived.Laws.BitsAllLaws
namespace Go.Proofs.Ytogijfebfffobaa
set_option maxRecDepth 100000

/-- What is wanted. -/
structure Wn where
  bw : Nat
  su : Int
  ho : Int
  an : Nat
  al : Nat
  no : Nat
/-- All bits of the first number are the second one's. -/
def subB (a b : Nat) : Bool := (a &&& b) == a
/-- Some bit is both numbers'. -/
def comB (a b : Nat) : Bool := (a &&& b) != 0
theorem subB_iff {a b : Nat} : subB a b = true ↔ ∀ i, a.testBit i = true → b.testBit i = true := by
  unfold subB
  rw [beq_iff_eq]
  constructor
  · intro h i hi
    have := congrArg (fun x => x.testBit i) h
    simp only [Nat.testBit_and, hi, Bool.true_and] at this
    exact this
  · intro h
    refine Nat.eq_of_testBit_eq fun i => ?_
    rw [Nat.testBit_and]
    by_cases hi : a.testBit i = true
    · rw [hi, h i hi]; rfl
    · simp [Bool.eq_false_iff.2 hi]
theorem comB_iff {a b : Nat} : comB a b = true ↔ ∃ i, a.testBit i = true ∧ b.testBit i = true := by
  unfold comB
  constructor
  · intro h
    refine Classical.byContradiction fun hn => ?_
    have : a &&& b = 0 := Nat.eq_of_testBit_eq fun i => by
      rw [Nat.testBit_and, Nat.zero_testBit]
      by_cases hi : a.testBit i = true
      · by_cases hj : b.testBit i = true
        · exact absurd ⟨i, hi, hj⟩ hn
        · simp [Bool.eq_false_iff.2 hj]
      · simp [Bool.eq_false_iff.2 hi]
    rw [this] at h
    simp at h
  · rintro ⟨i, hi, hj⟩
    rw [bne_iff_ne]
    intro h
    have := congrArg (fun x => x.testBit i) h
    simp only [Nat.testBit_and, hi, hj, Nat.zero_testBit] at this
    exact absurd this (by simp)
theorem subB_zero (b : Nat) : subB 0 b = true := by simp [subB]
theorem comB_zero (b : Nat) : comB 0 b = false := by simp [comB]
theorem subB_self (a : Nat) : subB a a = true := subB_iff.2 fun _ h => h
theorem subB_trans {a b c : Nat} (h : subB a b = true) (k : subB b c = true) : subB a c = true := subB_iff.2 fun i hi => subB_iff.1 k i (subB_iff.1 h i hi)
theorem subB_bad {a b : Nat} (h : a % 2 = 1) (k : b % 2 = 0) : subB a b = false := by
  refine Bool.eq_false_iff.2 fun hs => ?_
  have := subB_iff.1 hs 0 (by rw [Nat.testBit_zero]; simpa using h)
  rw [Nat.testBit_zero] at this
  simp at this
  omega
theorem subB_step {a b : Nat} (h : ¬ (a % 2 = 1 ∧ b % 2 = 0)) : subB (a / 2) (b / 2) = subB a b := by
  refine Bool.eq_iff_iff.2 ?_
  rw [subB_iff, subB_iff]
  constructor
  · intro hs i hi
    cases i with
    | zero =>
      rw [Nat.testBit_zero] at hi ⊢
      simp at hi ⊢
      omega
    | succ i =>
      rw [Nat.testBit_succ] at hi ⊢
      exact hs i hi
  · intro hs i hi
    have := hs (i + 1) (by rw [Nat.testBit_succ]; exact hi)
    rwa [Nat.testBit_succ] at this
theorem comB_good {a b : Nat} (h : a % 2 = 1) (k : b % 2 = 1) : comB a b = true :=
  comB_iff.2 ⟨0, by rw [Nat.testBit_zero]; simpa using h, by rw [Nat.testBit_zero]; simpa using k⟩
theorem comB_step {a b : Nat} (h : ¬ (a % 2 = 1 ∧ b % 2 = 1)) : comB (a / 2) (b / 2) = comB a b := by
  refine Bool.eq_iff_iff.2 ?_
  rw [comB_iff, comB_iff]
  constructor
  · rintro ⟨i, hi, hj⟩
    exact ⟨i + 1, by rw [Nat.testBit_succ]; exact hi, by rw [Nat.testBit_succ]; exact hj⟩
  · rintro ⟨i, hi, hj⟩
    cases i with
    | zero =>
      rw [Nat.testBit_zero] at hi hj
      simp at hi hj
      exact absurd ⟨hi, hj⟩ h
    | succ i =>
      rw [Nat.testBit_succ] at hi hj
      exact ⟨i, hi, hj⟩

/-- Is a link of these groups allowed? -/
def wAllows (w : Wn) (g : Nat) : Bool := (w.an == 0 || comB w.an g) && (subB w.al g && !comB w.no g)
/-- May it be wanted? -/
def wRight (w : Wn) : Bool := decide (0 ≤ w.su ∧ w.su ≤ 7 ∧ 0 ≤ w.ho ∧ w.ho ≤ w.su)
/-- Does the first want ask no more than the second one? -/
def wCovers (a b : Wn) : Bool := (a.an == 0 || (b.an != 0 && subB b.an a.an)) && (decide (a.bw ≤ b.bw) && (subB a.al b.al && subB a.no b.no))
theorem wCovers_less {a b : Wn} {g : Nat} (h : wCovers a b = true) (k : wAllows b g = true) : wAllows a g = true := by
  simp only [wCovers, wAllows, Bool.and_eq_true, Bool.or_eq_true, beq_iff_eq, bne_iff_ne, decide_eq_true_eq, Bool.not_eq_true'] at h k ⊢
  obtain ⟨h1, _, h3, h4⟩ := h
  obtain ⟨k1, k2, k3⟩ := k
  refine ⟨?_, subB_trans h3 k2, ?_⟩
  · rcases h1 with h1 | ⟨h1, h2⟩
    · exact .inl h1
    · rcases k1 with k1 | k1
      · exact absurd k1 h1
      · obtain ⟨i, hi, hj⟩ := comB_iff.1 k1
        exact .inr (comB_iff.2 ⟨i, subB_iff.1 h2 i hi, hj⟩)
  · refine Bool.eq_false_iff.2 fun hc => ?_
    obtain ⟨i, hi, hj⟩ := comB_iff.1 hc
    rw [Bool.eq_false_iff] at k3
    exact k3 (comB_iff.2 ⟨i, subB_iff.1 h4 i hi, hj⟩)
theorem wCovers_self (a : Wn) : wCovers a a = true := by
  by_cases h : a.an = 0
  · simp [wCovers, h, subB_self]
  · simp [wCovers, h, subB_self]
theorem wCovers_trans {a b c : Wn} (h : wCovers a b = true) (k : wCovers b c = true) : wCovers a c = true := by
  simp only [wCovers, Bool.and_eq_true, Bool.or_eq_true, beq_iff_eq, bne_iff_ne, decide_eq_true_eq] at h k ⊢
  obtain ⟨h1, h2, h3, h4⟩ := h
  obtain ⟨k1, k2, k3, k4⟩ := k
  refine ⟨?_, Nat.le_trans h2 k2, subB_trans h3 k3, subB_trans h4 k4⟩
  rcases h1 with h1 | ⟨h1, h5⟩
  · exact .inl h1
  · rcases k1 with k1 | ⟨k1, k5⟩
    · exact absurd k1 h1
    · exact .inr ⟨k1, subB_trans k5 h5⟩
theorem wAllows_none (b : Nat) (s h : Int) (g : Nat) : wAllows ⟨b, s, h, 0, 0, 0⟩ g = true := by simp [wAllows, subB_zero, comB_zero]
theorem wAllows_more {w : Wn} {g m : Nat} (hn : w.no = 0) (h : wAllows w g = true) : wAllows w (g ||| m) = true := by
  simp only [wAllows, hn, Bool.and_eq_true, Bool.or_eq_true, beq_iff_eq, comB_zero, Bool.not_false, and_true] at h ⊢
  obtain ⟨h1, h2⟩ := h
  refine ⟨?_, subB_iff.2 fun i hi => by rw [Nat.testBit_or, subB_iff.1 h2 i hi]; rfl⟩
  rcases h1 with h1 | h1
  · exact .inl h1
  · obtain ⟨i, hi, hj⟩ := comB_iff.1 h1
    exact .inr (comB_iff.2 ⟨i, hi, by rw [Nat.testBit_or, hj]; rfl⟩)
end Go.Proofs.Ytogijfebfffobaa

namespace Go.Proofs.Ytogijfebfffobaa
set_option maxRecDepth 100000
set_option linter.unusedVariables false
open Go.RowKit

/-- The cells of a want. -/
def wnc (w : Wn) : List Value := [.int .u64 (w.bw : Int), .int .i64 w.su, .int .i64 w.ho, .int .u32 (w.an : Int), .int .u32 (w.al : Int), .int .u32 (w.no : Int)]
/-- A want's groups are numbers of 32 bits. -/
def WnOk (w : Wn) : Prop := w.an < 4294967296 ∧ w.al < 4294967296 ∧ w.no < 4294967296

end Go.Proofs.Ytogijfebfffobaa

namespace Go.Proofs.Ytogijfebfffobaa
set_option maxRecDepth 100000
set_option linter.unusedVariables false
open Go.RowKit

/-- A yes or no, and memory is only more. -/
def Yes12 (b : Bool) (w : World) (e : Ending) (w' : World) : Prop := e = .returned (.bool b) ∧ Below w.heap.size w w'

theorem rright12_calls (x : Wn) (w : World) : Calls Try.prog 41 #[.agg #[.int .u64 (x.bw : Int), .int .i64 x.su, .int .i64 x.ho, .int .u32 (x.an : Int), .int .u32 (x.al : Int), .int .u32 (x.no : Int)]] w (Yes12 (wRight x) w) := by
  obtain ⟨b, s, h, an, al, no⟩ := x
  unfold Yes12 wRight
  simp only
  by_cases h1 : 0 ≤ s
  · by_cases h2 : s ≤ 7
    · by_cases h3 : 0 ≤ h
      · have hd : decide (0 ≤ s ∧ s ≤ 7 ∧ 0 ≤ h ∧ h ≤ s) = decide (h ≤ s) := decide_eq_decide.2 (by omega)
        rw [hd]
        go_enter Try.func41, Try.ntmps41
        go_wp2
        go_ret
        exact ⟨rfl, bel_new (Below.refl _ _) _⟩
      · have hd : decide (0 ≤ s ∧ s ≤ 7 ∧ 0 ≤ h ∧ h ≤ s) = false := decide_eq_false (by omega)
        rw [hd]
        go_enter Try.func41, Try.ntmps41
        go_wp2
        go_ret
        exact ⟨rfl, bel_new (Below.refl _ _) _⟩
    · have hd : decide (0 ≤ s ∧ s ≤ 7 ∧ 0 ≤ h ∧ h ≤ s) = false := decide_eq_false (by omega)
      rw [hd]
      go_enter Try.func41, Try.ntmps41
      go_wp2
      go_ret
      exact ⟨rfl, bel_new (Below.refl _ _) _⟩
  · have hd : decide (0 ≤ s ∧ s ≤ 7 ∧ 0 ≤ h ∧ h ≤ s) = false := decide_eq_false (by omega)
    rw [hd]
    go_enter Try.func41, Try.ntmps41
    go_wp2
    go_ret
    exact ⟨rfl, bel_new (Below.refl _ _) _⟩

end Go.Proofs.Ytogijfebfffobaa

namespace Go.Proofs.Ytogijfebfffobaa
set_option maxRecDepth 100000
set_option linter.unusedVariables false
open Go.RowKit

theorem cast_ne0 (n : Nat) : ((n : Int) != 0) = (n != 0) := by
  by_cases h : n = 0
  · subst h; rfl
  · rw [bne_iff_ne.2 h, bne_iff_ne.2 (by omega : (n : Int) ≠ 0)]
theorem cast_eq0 (n : Nat) : ((n : Int) == 0) = (n == 0) := by
  by_cases h : n = 0
  · subst h; rfl
  · rw [beq_false_of_ne h, beq_false_of_ne (by omega : (n : Int) ≠ 0)]
theorem cast_eq (n m : Nat) : ((n : Int) == (m : Int)) = (n == m) := by
  by_cases h : n = m
  · subst h; simp
  · rw [beq_false_of_ne h, beq_false_of_ne (by omega : (n : Int) ≠ (m : Int))]

theorem right12_calls (x : Wn) (w : World) : Calls Try.prog 37 #[.agg #[.int .u64 (x.bw : Int), .int .i64 x.su, .int .i64 x.ho, .int .u32 (x.an : Int), .int .u32 (x.al : Int), .int .u32 (x.no : Int)]] w (Yes12 (wRight x) w) := by
  obtain ⟨b, s, h, an, al, no⟩ := x
  unfold Yes12 wRight
  simp only
  by_cases h1 : 0 ≤ h
  · by_cases h2 : h ≤ s
    · have hd : decide (0 ≤ s ∧ s ≤ 7 ∧ 0 ≤ h ∧ h ≤ s) = decide (s ≤ 7) := decide_eq_decide.2 (by omega)
      rw [hd]
      go_enter Try.func37, Try.ntmps37
      go_wp2_with fail
      go_ret
      exact ⟨rfl, bel_new (Below.refl _ _) _⟩
    · have hd : decide (0 ≤ s ∧ s ≤ 7 ∧ 0 ≤ h ∧ h ≤ s) = false := decide_eq_false (by omega)
      rw [hd]
      go_enter Try.func37, Try.ntmps37
      go_wp2_with fail
      go_ret
      exact ⟨rfl, bel_new (Below.refl _ _) _⟩
  · have hd : decide (0 ≤ s ∧ s ≤ 7 ∧ 0 ≤ h ∧ h ≤ s) = false := decide_eq_false (by omega)
    rw [hd]
    go_enter Try.func37, Try.ntmps37
    go_wp2_with fail
    go_ret
    exact ⟨rfl, bel_new (Below.refl _ _) _⟩

end Go.Proofs.Ytogijfebfffobaa
