/-
  The document's answers of layer 12 (viaductref12): Allows, Right, Covers. Condition: groups are numbers of 32 bits.
-/
import Derived.Test.YtgfahcdhbpaofaaGroupA
namespace Go.Proofs.Ytgfahcdhbpaofaa
set_option maxRecDepth 100000
set_option linter.unusedVariables false
open Go.RowKit

/-- A yes or no, and memory is only more. -/
def Yes12 (b : Bool) (w : World) (e : Ending) (w' : World) : Prop := e = .returned (.bool b) ∧ Below w.heap.size w w'

theorem rright12_calls (x : Wn) (w : World) : Calls Try.prog 12 #[.agg #[.int .u64 (x.bw : Int), .int .i64 x.su, .int .i64 x.ho, .int .u32 (x.an : Int), .int .u32 (x.al : Int), .int .u32 (x.no : Int)]] w (Yes12 (wRight x) w) := by
  obtain ⟨b, s, h, an, al, no⟩ := x
  unfold Yes12 wRight
  simp only
  by_cases h1 : 0 ≤ s
  · by_cases h2 : s ≤ 7
    · by_cases h3 : 0 ≤ h
      · have hd : decide (0 ≤ s ∧ s ≤ 7 ∧ 0 ≤ h ∧ h ≤ s) = decide (h ≤ s) := decide_eq_decide.2 (by omega)
        rw [hd]
        go_enter Try.func12, Try.ntmps12
        go_wp2
        go_ret
        exact ⟨rfl, bel_new (Below.refl _ _) _⟩
      · have hd : decide (0 ≤ s ∧ s ≤ 7 ∧ 0 ≤ h ∧ h ≤ s) = false := decide_eq_false (by omega)
        rw [hd]
        go_enter Try.func12, Try.ntmps12
        go_wp2
        go_ret
        exact ⟨rfl, bel_new (Below.refl _ _) _⟩
    · have hd : decide (0 ≤ s ∧ s ≤ 7 ∧ 0 ≤ h ∧ h ≤ s) = false := decide_eq_false (by omega)
      rw [hd]
      go_enter Try.func12, Try.ntmps12
      go_wp2
      go_ret
      exact ⟨rfl, bel_new (Below.refl _ _) _⟩
  · have hd : decide (0 ≤ s ∧ s ≤ 7 ∧ 0 ≤ h ∧ h ≤ s) = false := decide_eq_false (by omega)
    rw [hd]
    go_enter Try.func12, Try.ntmps12
    go_wp2
    go_ret
    exact ⟨rfl, bel_new (Below.refl _ _) _⟩

theorem rallows12_calls (x : Wn) (hx : WnOk x) (g : Nat) (hg : g < 4294967296) (w : World) : Calls Try.prog 10 #[.agg #[.int .u64 (x.bw : Int), .int .i64 x.su, .int .i64 x.ho, .int .u32 (x.an : Int), .int .u32 (x.al : Int), .int .u32 (x.no : Int)], .int .u32 (g : Int)] w (Yes12 (wAllows x g) w) := by
  obtain ⟨b, s, h, an, al, no⟩ := x
  obtain ⟨k1, k2, k3⟩ := hx
  unfold Yes12 wAllows
  simp only at k1 k2 k3 ⊢
  have hc : ∃ c1, comB an g = c1 := ⟨_, rfl⟩
  obtain ⟨c1, hc1⟩ := hc
  have hc : ∃ c2, subB al g = c2 := ⟨_, rfl⟩
  obtain ⟨c2, hc2⟩ := hc
  have hc : ∃ c3, comB no g = c3 := ⟨_, rfl⟩
  obtain ⟨c3, hc3⟩ := hc
  have C1 := Lib.hid (fun w => common12_calls an g k1 hg w)
  have C2 := Lib.hid (fun w => within12_calls al g k2 hg w)
  have C3 := Lib.hid (fun w => common12_calls no g k3 hg w)
  rw [hc1] at C1
  rw [hc2] at C2
  rw [hc3] at C3
  rw [hc1, hc2, hc3]
  clear hc1 hc2 hc3
  by_cases h0 : an = 0
  · have h1 : (an : Int) = 0 := by omega
    have e0 : ((an == 0 || c1) && (c2 && !c3)) = (c2 && !c3) := by simp [h0]
    rw [e0]
    clear e0 C1
    cases c2 with
    | false =>
      go_enter Try.func10, Try.ntmps10
      go_wp2_with fail
      ((with_reducible refine (C2.out _).mono ?_))
      rintro e w2 ⟨rfl, rfl⟩
      go_wp2_with fail
      go_ret
      exact ⟨rfl, bel_new (Below.refl _ _) _⟩
    | true =>
      go_enter Try.func10, Try.ntmps10
      go_wp2_with fail
      ((with_reducible refine (C2.out _).mono ?_))
      rintro e w2 ⟨rfl, rfl⟩
      go_wp2_with fail
      ((with_reducible refine (C3.out _).mono ?_))
      rintro e w2 ⟨rfl, rfl⟩
      go_wp2_with fail
      go_ret
      exact ⟨rfl, bel_new (Below.refl _ _) _⟩
  · have h1 : ¬ (an : Int) = 0 := by omega
    have e0 : ((an == 0 || c1) && (c2 && !c3)) = (c1 && (c2 && !c3)) := by rw [show (an == 0) = false from beq_false_of_ne h0, Bool.false_or]
    rw [e0]
    clear e0 h0
    cases c1 with
    | false =>
      go_enter Try.func10, Try.ntmps10
      go_wp2_with fail
      ((with_reducible refine (C1.out _).mono ?_))
      rintro e w2 ⟨rfl, rfl⟩
      go_wp2_with fail
      go_ret
      exact ⟨rfl, bel_new (Below.refl _ _) _⟩
    | true =>
      cases c2 with
      | false =>
        go_enter Try.func10, Try.ntmps10
        go_wp2_with fail
        ((with_reducible refine (C1.out _).mono ?_))
        rintro e w2 ⟨rfl, rfl⟩
        go_wp2_with fail
        ((with_reducible refine (C2.out _).mono ?_))
        rintro e w2 ⟨rfl, rfl⟩
        go_wp2_with fail
        go_ret
        exact ⟨rfl, bel_new (Below.refl _ _) _⟩
      | true =>
        go_enter Try.func10, Try.ntmps10
        go_wp2_with fail
        ((with_reducible refine (C1.out _).mono ?_))
        rintro e w2 ⟨rfl, rfl⟩
        go_wp2_with fail
        ((with_reducible refine (C2.out _).mono ?_))
        rintro e w2 ⟨rfl, rfl⟩
        go_wp2_with fail
        ((with_reducible refine (C3.out _).mono ?_))
        rintro e w2 ⟨rfl, rfl⟩
        go_wp2_with fail
        go_ret
        exact ⟨rfl, bel_new (Below.refl _ _) _⟩

theorem rcovers12_calls (x y : Wn) (hx : WnOk x) (hy : WnOk y) (w : World) : Calls Try.prog 14 #[.agg #[.int .u64 (x.bw : Int), .int .i64 x.su, .int .i64 x.ho, .int .u32 (x.an : Int), .int .u32 (x.al : Int), .int .u32 (x.no : Int)], .agg #[.int .u64 (y.bw : Int), .int .i64 y.su, .int .i64 y.ho, .int .u32 (y.an : Int), .int .u32 (y.al : Int), .int .u32 (y.no : Int)]] w (Yes12 (wCovers x y) w) := by
  obtain ⟨xb, xs, xh, xan, xal, xno⟩ := x
  obtain ⟨yb, ys, yh, yan, yal, yno⟩ := y
  obtain ⟨k1, k2, k3⟩ := hx
  obtain ⟨l1, l2, l3⟩ := hy
  unfold Yes12 wCovers
  simp only at k1 k2 k3 l1 l2 l3 ⊢
  have hc : ∃ c1, subB yan xan = c1 := ⟨_, rfl⟩
  obtain ⟨c1, hc1⟩ := hc
  have hc : ∃ c2, subB xal yal = c2 := ⟨_, rfl⟩
  obtain ⟨c2, hc2⟩ := hc
  have hc : ∃ c3, subB xno yno = c3 := ⟨_, rfl⟩
  obtain ⟨c3, hc3⟩ := hc
  have C1 := Lib.hid (fun w => within12_calls yan xan l1 k1 w)
  have C2 := Lib.hid (fun w => within12_calls xal yal k2 l2 w)
  have C3 := Lib.hid (fun w => within12_calls xno yno k3 l3 w)
  rw [hc1] at C1
  rw [hc2] at C2
  rw [hc3] at C3
  rw [hc1, hc2, hc3]
  clear hc1 hc2 hc3
  by_cases h0 : xan = 0
  · have h1 : ((xan : Int) != 0) = false := bne_eq_false_iff_eq.2 (by omega)
    have e0 : ((xan == 0 || (yan != 0 && c1)) && (decide (xb ≤ yb) && (c2 && c3))) = (decide (xb ≤ yb) && (c2 && c3)) := by simp [h0]
    rw [e0]
    clear e0 C1
    by_cases hb : xb ≤ yb
    · have hb1 : (xb : Int) ≤ (yb : Int) := by omega
      rw [show (decide (xb ≤ yb)) = true from decide_eq_true hb, Bool.true_and]
      cases c2 with
      | false =>
        go_enter Try.func14, Try.ntmps14
        go_wp2_with fail
        ((with_reducible refine (C2.out _).mono ?_))
        rintro e w2 ⟨rfl, rfl⟩
        go_wp2_with fail
        go_ret
        exact ⟨rfl, bel_new (bel_new (Below.refl _ _) _) _⟩
      | true =>
        go_enter Try.func14, Try.ntmps14
        go_wp2_with fail
        ((with_reducible refine (C2.out _).mono ?_))
        rintro e w2 ⟨rfl, rfl⟩
        go_wp2_with fail
        ((with_reducible refine (C3.out _).mono ?_))
        rintro e w2 ⟨rfl, rfl⟩
        go_wp2_with fail
        go_ret
        exact ⟨by cases c3 <;> rfl, bel_new (bel_new (Below.refl _ _) _) _⟩
    · have hb1 : ¬ (xb : Int) ≤ (yb : Int) := by omega
      rw [show (decide (xb ≤ yb)) = false from decide_eq_false hb, Bool.false_and]
      clear hb
      go_enter Try.func14, Try.ntmps14
      go_wp2_with fail
      go_ret
      exact ⟨rfl, bel_new (bel_new (Below.refl _ _) _) _⟩
  · have h1 : ((xan : Int) != 0) = true := bne_iff_ne.2 (by omega)
    rw [show (xan == 0) = false from beq_false_of_ne h0, Bool.false_or]
    clear h0
    by_cases g0 : yan = 0
    · have g1 : ((yan : Int) == 0) = true := beq_iff_eq.2 (by omega)
      rw [show (yan != 0) = false by simp [g0], Bool.false_and, Bool.false_and]
      go_enter Try.func14, Try.ntmps14
      go_wp2_with fail
      go_ret
      exact ⟨rfl, bel_new (bel_new (Below.refl _ _) _) _⟩
    · have g1 : ((yan : Int) == 0) = false := beq_false_of_ne (by omega)
      rw [show (yan != 0) = true from bne_iff_ne.2 g0, Bool.true_and]
      clear g0
      cases c1 with
      | false =>
        go_enter Try.func14, Try.ntmps14
        go_wp2_with fail
        ((with_reducible refine (C1.out _).mono ?_))
        rintro e w2 ⟨rfl, rfl⟩
        go_wp2_with fail
        go_ret
        exact ⟨rfl, bel_new (bel_new (Below.refl _ _) _) _⟩
      | true =>
        rw [Bool.true_and]
        by_cases hb : xb ≤ yb
        · have hb1 : (xb : Int) ≤ (yb : Int) := by omega
          rw [show (decide (xb ≤ yb)) = true from decide_eq_true hb, Bool.true_and]
          cases c2 with
          | false =>
            go_enter Try.func14, Try.ntmps14
            go_wp2_with fail
            ((with_reducible refine (C1.out _).mono ?_))
            rintro e w2 ⟨rfl, rfl⟩
            go_wp2_with fail
            ((with_reducible refine (C2.out _).mono ?_))
            rintro e w2 ⟨rfl, rfl⟩
            go_wp2_with fail
            go_ret
            exact ⟨rfl, bel_new (bel_new (Below.refl _ _) _) _⟩
          | true =>
            go_enter Try.func14, Try.ntmps14
            go_wp2_with fail
            ((with_reducible refine (C1.out _).mono ?_))
            rintro e w2 ⟨rfl, rfl⟩
            go_wp2_with fail
            ((with_reducible refine (C2.out _).mono ?_))
            rintro e w2 ⟨rfl, rfl⟩
            go_wp2_with fail
            ((with_reducible refine (C3.out _).mono ?_))
            rintro e w2 ⟨rfl, rfl⟩
            go_wp2_with fail
            go_ret
            exact ⟨by cases c3 <;> rfl, bel_new (bel_new (Below.refl _ _) _) _⟩
        · have hb1 : ¬ (xb : Int) ≤ (yb : Int) := by omega
          rw [show (decide (xb ≤ yb)) = false from decide_eq_false hb, Bool.false_and]
          clear hb
          go_enter Try.func14, Try.ntmps14
          go_wp2_with fail
          ((with_reducible refine (C1.out _).mono ?_))
          rintro e w2 ⟨rfl, rfl⟩
          go_wp2_with fail
          go_ret
          exact ⟨rfl, bel_new (bel_new (Below.refl _ _) _) _⟩
end Go.Proofs.Ytgfahcdhbpaofaa
