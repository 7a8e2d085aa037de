/-
  The document's answers of layer 12 (viaductref12). Condition: groups are numbers of 32 bits.
  The document's answers of layer 12 (viaductref12): Allows, Right, Covers. Condition: groups are numbers of 32 bits.
  The code of layer 12 (group): has, coversAny, Allows, Right, Covers, and what the laws ask first of all. Condition: groups are numbers of 32 bits.
-/
import Derived.Test.YtmffmoflelnmoaaGroupM
import Derived.Test.YtmffmoflelnmoaaBlk
import Derived.Laws.BitsAllLaws
namespace Go.Proofs.Ytmffmoflelnmoaa
set_option maxRecDepth 100000
set_option linter.unusedVariables false
open Go.RowKit

/-- The cells of a want. -/
def wnc (w : Wn) : List Value := [.int .u64 (w.bw : Int), .int .i64 w.su, .int .i64 w.ho, .int .u32 (w.an : Int), .int .u32 (w.al : Int), .int .u32 (w.no : Int)]
/-- A want's groups are numbers of 32 bits. -/
def WnOk (w : Wn) : Prop := w.an < 4294967296 ∧ w.al < 4294967296 ∧ w.no < 4294967296

theorem within12_calls (a b : Nat) (ha : a < 4294967296) (hb : b < 4294967296) (w : World) : Calls Try.prog 35 #[.int .u32 (a : Int), .int .u32 (b : Int)] w fun e w' => e = .returned (.bool (subB a b)) ∧ w' = w := by
  go_enter Try.func35, Try.ntmps35
  go_wp2_with fail
  go_loopw [0, 1, 5] (fun s t u W => ∃ i x y : Nat, i ≤ 32 ∧ s = .int .u32 (x : Int) ∧ t = .int .u32 (y : Int) ∧ u = .int .i64 (i : Int) ∧ x < 2 ^ (32 - i) ∧ y < 4294967296 ∧ subB x y = subB a b ∧ W = w) (fun s t u W => 32 - (intOf u).toNat)
  case atStart => exact ⟨0, a, b, by omega, rfl, rfl, rfl, ha, hb, rfl, by first | rfl | trivial⟩
  case round =>
    obtain ⟨i, x, y, hi, rfl, rfl, rfl, hx, hy, hs, rfl⟩ := hrel
    have HX := Lib.hid hx
    have HS := Lib.hid hs
    clear hx hs
    by_cases hlt : i < 32
    · have i1 : (i : Int) < 32 := by omega
      have hx2 : x / 2 < 2 ^ (32 - (i + 1)) := by
        have h := HX.out
        rw [show 32 - i = 32 - (i + 1) + 1 by omega, Nat.pow_succ] at h
        omega
      have HX2 := Lib.hid hx2
      clear hx2
      by_cases hc : x % 2 = 1 ∧ y % 2 = 0
      · have hv := subB_bad hc.1 hc.2
        have HV := Lib.hid (HS.out.symm.trans hv)
        obtain ⟨h1, h2⟩ := hc
        have h3 : (x : Int) % 2 = 1 := by omega
        have h4 : (y : Int) % 2 = 0 := by omega
        clear hv
        go_wp2
        go_ret
        exact ⟨by rw [HV.out]; rfl, rfl⟩
      · have hv := subB_step hc
        have HV := Lib.hid (hv.trans HS.out)
        have hy2 : y / 2 < 4294967296 := by omega
        have hx4 : x < 4294967296 := Nat.lt_of_lt_of_le HX.out (show 2 ^ (32 - i) ≤ 2 ^ 32 from Nat.pow_le_pow_right (by omega) (by omega))
        clear hv hlt
        by_cases hx1 : x % 2 = 1
        · have h3 : (x : Int) % 2 = 1 := by omega
          have h4 : (y : Int) % 2 = 1 := by omega
          clear hc
          go_wp2_with fail
          go_roundw
          case rel => exact ⟨i + 1, x / 2, y / 2, by omega, by first | rfl | (simp; omega), by first | rfl | (simp; omega), rfl, HX2.out, hy2, HV.out, by first | rfl | trivial⟩
          case measure => simp [intOf]; omega
        · have h3 : (x : Int) % 2 = 0 := by omega
          clear hc
          go_wp2_with fail
          go_roundw
          case rel => exact ⟨i + 1, x / 2, y / 2, by omega, by first | rfl | (simp; omega), by first | rfl | (simp; omega), rfl, HX2.out, hy2, HV.out, by first | rfl | trivial⟩
          case measure => simp [intOf]; omega
    · obtain rfl : i = 32 := by omega
      have hx0 : x = 0 := by have := HX.out; omega
      subst hx0
      have hv := HS.out
      rw [subB_zero] at hv
      have HV := Lib.hid hv
      clear hv
      go_wp2
      go_ret
      exact ⟨by rw [← HV.out]; rfl, rfl⟩
theorem common12_calls (a b : Nat) (ha : a < 4294967296) (hb : b < 4294967296) (w : World) : Calls Try.prog 49 #[.int .u32 (a : Int), .int .u32 (b : Int)] w fun e w' => e = .returned (.bool (comB a b)) ∧ w' = w := by
  go_enter Try.func49, Try.ntmps49
  go_wp2_with fail
  go_loopw [0, 1, 5] (fun s t u W => ∃ i x y : Nat, i ≤ 32 ∧ s = .int .u32 (x : Int) ∧ t = .int .u32 (y : Int) ∧ u = .int .i64 (i : Int) ∧ x < 2 ^ (32 - i) ∧ y < 4294967296 ∧ comB x y = comB a b ∧ W = w) (fun s t u W => 32 - (intOf u).toNat)
  case atStart => exact ⟨0, a, b, by omega, rfl, rfl, rfl, ha, hb, rfl, by first | rfl | trivial⟩
  case round =>
    obtain ⟨i, x, y, hi, rfl, rfl, rfl, hx, hy, hs, rfl⟩ := hrel
    have HX := Lib.hid hx
    have HS := Lib.hid hs
    clear hx hs
    by_cases hlt : i < 32
    · have i1 : (i : Int) < 32 := by omega
      have hx2 : x / 2 < 2 ^ (32 - (i + 1)) := by
        have h := HX.out
        rw [show 32 - i = 32 - (i + 1) + 1 by omega, Nat.pow_succ] at h
        omega
      have HX2 := Lib.hid hx2
      clear hx2
      by_cases hc : x % 2 = 1 ∧ y % 2 = 1
      · have hv := comB_good hc.1 hc.2
        have HV := Lib.hid (HS.out.symm.trans hv)
        obtain ⟨h1, h2⟩ := hc
        have h3 : (x : Int) % 2 = 1 := by omega
        have h4 : (y : Int) % 2 = 1 := by omega
        clear hv
        go_wp2
        go_ret
        exact ⟨by rw [HV.out]; rfl, rfl⟩
      · have hv := comB_step hc
        have HV := Lib.hid (hv.trans HS.out)
        have hy2 : y / 2 < 4294967296 := by omega
        have hx4 : x < 4294967296 := Nat.lt_of_lt_of_le HX.out (show 2 ^ (32 - i) ≤ 2 ^ 32 from Nat.pow_le_pow_right (by omega) (by omega))
        clear hv hlt
        by_cases hx1 : x % 2 = 1
        · have h3 : (x : Int) % 2 = 1 := by omega
          have h4 : (y : Int) % 2 = 0 := by omega
          clear hc
          go_wp2_with fail
          go_roundw
          case rel => exact ⟨i + 1, x / 2, y / 2, by omega, by first | rfl | (simp; omega), by first | rfl | (simp; omega), rfl, HX2.out, hy2, HV.out, by first | rfl | trivial⟩
          case measure => simp [intOf]; omega
        · have h3 : (x : Int) % 2 = 0 := by omega
          clear hc
          go_wp2_with fail
          go_roundw
          case rel => exact ⟨i + 1, x / 2, y / 2, by omega, by first | rfl | (simp; omega), by first | rfl | (simp; omega), rfl, HX2.out, hy2, HV.out, by first | rfl | trivial⟩
          case measure => simp [intOf]; omega
    · obtain rfl : i = 32 := by omega
      have hx0 : x = 0 := by have := HX.out; omega
      subst hx0
      have hv := HS.out
      rw [comB_zero] at hv
      have HV := Lib.hid hv
      clear hv
      go_wp2
      go_ret
      exact ⟨by rw [← HV.out]; rfl, rfl⟩
end Go.Proofs.Ytmffmoflelnmoaa

namespace Go.Proofs.Ytmffmoflelnmoaa
set_option maxRecDepth 100000
set_option linter.unusedVariables false
open Go.RowKit

/-- A yes or no, and memory is only more. -/
def Yes12 (b : Bool) (w : World) (e : Ending) (w' : World) : Prop := e = .returned (.bool b) ∧ Below w.heap.size w w'

theorem rright12_calls (x : Wn) (w : World) : Calls Try.prog 19 #[.agg #[.int .u64 (x.bw : Int), .int .i64 x.su, .int .i64 x.ho, .int .u32 (x.an : Int), .int .u32 (x.al : Int), .int .u32 (x.no : Int)]] w (Yes12 (wRight x) w) := by
  obtain ⟨b, s, h, an, al, no⟩ := x
  unfold Yes12 wRight
  simp only
  by_cases h1 : 0 ≤ s
  · by_cases h2 : s ≤ 7
    · by_cases h3 : 0 ≤ h
      · have hd : decide (0 ≤ s ∧ s ≤ 7 ∧ 0 ≤ h ∧ h ≤ s) = decide (h ≤ s) := decide_eq_decide.2 (by omega)
        rw [hd]
        go_enter Try.func19, Try.ntmps19
        go_wp2
        go_ret
        exact ⟨rfl, bel_new (Below.refl _ _) _⟩
      · have hd : decide (0 ≤ s ∧ s ≤ 7 ∧ 0 ≤ h ∧ h ≤ s) = false := decide_eq_false (by omega)
        rw [hd]
        go_enter Try.func19, Try.ntmps19
        go_wp2
        go_ret
        exact ⟨rfl, bel_new (Below.refl _ _) _⟩
    · have hd : decide (0 ≤ s ∧ s ≤ 7 ∧ 0 ≤ h ∧ h ≤ s) = false := decide_eq_false (by omega)
      rw [hd]
      go_enter Try.func19, Try.ntmps19
      go_wp2
      go_ret
      exact ⟨rfl, bel_new (Below.refl _ _) _⟩
  · have hd : decide (0 ≤ s ∧ s ≤ 7 ∧ 0 ≤ h ∧ h ≤ s) = false := decide_eq_false (by omega)
    rw [hd]
    go_enter Try.func19, Try.ntmps19
    go_wp2
    go_ret
    exact ⟨rfl, bel_new (Below.refl _ _) _⟩

theorem rallows12_calls (x : Wn) (hx : WnOk x) (g : Nat) (hg : g < 4294967296) (w : World) : Calls Try.prog 31 #[.agg #[.int .u64 (x.bw : Int), .int .i64 x.su, .int .i64 x.ho, .int .u32 (x.an : Int), .int .u32 (x.al : Int), .int .u32 (x.no : Int)], .int .u32 (g : Int)] w (Yes12 (wAllows x g) w) := by
  obtain ⟨b, s, h, an, al, no⟩ := x
  obtain ⟨k1, k2, k3⟩ := hx
  unfold Yes12 wAllows
  simp only at k1 k2 k3 ⊢
  have hc : ∃ c1, comB an g = c1 := ⟨_, rfl⟩
  obtain ⟨c1, hc1⟩ := hc
  have hc : ∃ c2, subB al g = c2 := ⟨_, rfl⟩
  obtain ⟨c2, hc2⟩ := hc
  have hc : ∃ c3, comB no g = c3 := ⟨_, rfl⟩
  obtain ⟨c3, hc3⟩ := hc
  have C1 := Lib.hid (fun w => common12_calls an g k1 hg w)
  have C2 := Lib.hid (fun w => within12_calls al g k2 hg w)
  have C3 := Lib.hid (fun w => common12_calls no g k3 hg w)
  rw [hc1] at C1
  rw [hc2] at C2
  rw [hc3] at C3
  rw [hc1, hc2, hc3]
  clear hc1 hc2 hc3
  by_cases h0 : an = 0
  · have h1 : (an : Int) = 0 := by omega
    have e0 : ((an == 0 || c1) && (c2 && !c3)) = (c2 && !c3) := by simp [h0]
    rw [e0]
    clear e0 C1
    cases c2 with
    | false =>
      go_enter Try.func31, Try.ntmps31
      go_wp2_with fail
      ((with_reducible refine (C2.out _).mono ?_))
      rintro e w2 ⟨rfl, rfl⟩
      go_wp2_with fail
      go_ret
      exact ⟨rfl, bel_new (Below.refl _ _) _⟩
    | true =>
      go_enter Try.func31, Try.ntmps31
      go_wp2_with fail
      ((with_reducible refine (C2.out _).mono ?_))
      rintro e w2 ⟨rfl, rfl⟩
      go_wp2_with fail
      ((with_reducible refine (C3.out _).mono ?_))
      rintro e w2 ⟨rfl, rfl⟩
      go_wp2_with fail
      go_ret
      exact ⟨rfl, bel_new (Below.refl _ _) _⟩
  · have h1 : ¬ (an : Int) = 0 := by omega
    have e0 : ((an == 0 || c1) && (c2 && !c3)) = (c1 && (c2 && !c3)) := by rw [show (an == 0) = false from beq_false_of_ne h0, Bool.false_or]
    rw [e0]
    clear e0 h0
    cases c1 with
    | false =>
      go_enter Try.func31, Try.ntmps31
      go_wp2_with fail
      ((with_reducible refine (C1.out _).mono ?_))
      rintro e w2 ⟨rfl, rfl⟩
      go_wp2_with fail
      go_ret
      exact ⟨rfl, bel_new (Below.refl _ _) _⟩
    | true =>
      cases c2 with
      | false =>
        go_enter Try.func31, Try.ntmps31
        go_wp2_with fail
        ((with_reducible refine (C1.out _).mono ?_))
        rintro e w2 ⟨rfl, rfl⟩
        go_wp2_with fail
        ((with_reducible refine (C2.out _).mono ?_))
        rintro e w2 ⟨rfl, rfl⟩
        go_wp2_with fail
        go_ret
        exact ⟨rfl, bel_new (Below.refl _ _) _⟩
      | true =>
        go_enter Try.func31, Try.ntmps31
        go_wp2_with fail
        ((with_reducible refine (C1.out _).mono ?_))
        rintro e w2 ⟨rfl, rfl⟩
        go_wp2_with fail
        ((with_reducible refine (C2.out _).mono ?_))
        rintro e w2 ⟨rfl, rfl⟩
        go_wp2_with fail
        ((with_reducible refine (C3.out _).mono ?_))
        rintro e w2 ⟨rfl, rfl⟩
        go_wp2_with fail
        go_ret
        exact ⟨rfl, bel_new (Below.refl _ _) _⟩

theorem rcovers12_calls (x y : Wn) (hx : WnOk x) (hy : WnOk y) (w : World) : Calls Try.prog 18 #[.agg #[.int .u64 (x.bw : Int), .int .i64 x.su, .int .i64 x.ho, .int .u32 (x.an : Int), .int .u32 (x.al : Int), .int .u32 (x.no : Int)], .agg #[.int .u64 (y.bw : Int), .int .i64 y.su, .int .i64 y.ho, .int .u32 (y.an : Int), .int .u32 (y.al : Int), .int .u32 (y.no : Int)]] w (Yes12 (wCovers x y) w) := by
  obtain ⟨xb, xs, xh, xan, xal, xno⟩ := x
  obtain ⟨yb, ys, yh, yan, yal, yno⟩ := y
  obtain ⟨k1, k2, k3⟩ := hx
  obtain ⟨l1, l2, l3⟩ := hy
  unfold Yes12 wCovers
  simp only at k1 k2 k3 l1 l2 l3 ⊢
  have hc : ∃ c1, subB yan xan = c1 := ⟨_, rfl⟩
  obtain ⟨c1, hc1⟩ := hc
  have hc : ∃ c2, subB xal yal = c2 := ⟨_, rfl⟩
  obtain ⟨c2, hc2⟩ := hc
  have hc : ∃ c3, subB xno yno = c3 := ⟨_, rfl⟩
  obtain ⟨c3, hc3⟩ := hc
  have C1 := Lib.hid (fun w => within12_calls yan xan l1 k1 w)
  have C2 := Lib.hid (fun w => within12_calls xal yal k2 l2 w)
  have C3 := Lib.hid (fun w => within12_calls xno yno k3 l3 w)
  rw [hc1] at C1
  rw [hc2] at C2
  rw [hc3] at C3
  rw [hc1, hc2, hc3]
  clear hc1 hc2 hc3
  by_cases h0 : xan = 0
  · have h1 : ((xan : Int) != 0) = false := bne_eq_false_iff_eq.2 (by omega)
    have e0 : ((xan == 0 || (yan != 0 && c1)) && (decide (xb ≤ yb) && (c2 && c3))) = (decide (xb ≤ yb) && (c2 && c3)) := by simp [h0]
    rw [e0]
    clear e0 C1
    by_cases hb : xb ≤ yb
    · have hb1 : (xb : Int) ≤ (yb : Int) := by omega
      rw [show (decide (xb ≤ yb)) = true from decide_eq_true hb, Bool.true_and]
      cases c2 with
      | false =>
        go_enter Try.func18, Try.ntmps18
        go_wp2_with fail
        ((with_reducible refine (C2.out _).mono ?_))
        rintro e w2 ⟨rfl, rfl⟩
        go_wp2_with fail
        go_ret
        exact ⟨rfl, bel_new (bel_new (Below.refl _ _) _) _⟩
      | true =>
        go_enter Try.func18, Try.ntmps18
        go_wp2_with fail
        ((with_reducible refine (C2.out _).mono ?_))
        rintro e w2 ⟨rfl, rfl⟩
        go_wp2_with fail
        ((with_reducible refine (C3.out _).mono ?_))
        rintro e w2 ⟨rfl, rfl⟩
        go_wp2_with fail
        go_ret
        exact ⟨by cases c3 <;> rfl, bel_new (bel_new (Below.refl _ _) _) _⟩
    · have hb1 : ¬ (xb : Int) ≤ (yb : Int) := by omega
      rw [show (decide (xb ≤ yb)) = false from decide_eq_false hb, Bool.false_and]
      clear hb
      go_enter Try.func18, Try.ntmps18
      go_wp2_with fail
      go_ret
      exact ⟨rfl, bel_new (bel_new (Below.refl _ _) _) _⟩
  · have h1 : ((xan : Int) != 0) = true := bne_iff_ne.2 (by omega)
    rw [show (xan == 0) = false from beq_false_of_ne h0, Bool.false_or]
    clear h0
    by_cases g0 : yan = 0
    · have g1 : ((yan : Int) == 0) = true := beq_iff_eq.2 (by omega)
      rw [show (yan != 0) = false by simp [g0], Bool.false_and, Bool.false_and]
      go_enter Try.func18, Try.ntmps18
      go_wp2_with fail
      go_ret
      exact ⟨rfl, bel_new (bel_new (Below.refl _ _) _) _⟩
    · have g1 : ((yan : Int) == 0) = false := beq_false_of_ne (by omega)
      rw [show (yan != 0) = true from bne_iff_ne.2 g0, Bool.true_and]
      clear g0
      cases c1 with
      | false =>
        go_enter Try.func18, Try.ntmps18
        go_wp2_with fail
        ((with_reducible refine (C1.out _).mono ?_))
        rintro e w2 ⟨rfl, rfl⟩
        go_wp2_with fail
        go_ret
        exact ⟨rfl, bel_new (bel_new (Below.refl _ _) _) _⟩
      | true =>
        rw [Bool.true_and]
        by_cases hb : xb ≤ yb
        · have hb1 : (xb : Int) ≤ (yb : Int) := by omega
          rw [show (decide (xb ≤ yb)) = true from decide_eq_true hb, Bool.true_and]
          cases c2 with
          | false =>
            go_enter Try.func18, Try.ntmps18
            go_wp2_with fail
            ((with_reducible refine (C1.out _).mono ?_))
            rintro e w2 ⟨rfl, rfl⟩
            go_wp2_with fail
            ((with_reducible refine (C2.out _).mono ?_))
            rintro e w2 ⟨rfl, rfl⟩
            go_wp2_with fail
            go_ret
            exact ⟨rfl, bel_new (bel_new (Below.refl _ _) _) _⟩
          | true =>
            go_enter Try.func18, Try.ntmps18
            go_wp2_with fail
            ((with_reducible refine (C1.out _).mono ?_))
            rintro e w2 ⟨rfl, rfl⟩
            go_wp2_with fail
            ((with_reducible refine (C2.out _).mono ?_))
            rintro e w2 ⟨rfl, rfl⟩
            go_wp2_with fail
            ((with_reducible refine (C3.out _).mono ?_))
            rintro e w2 ⟨rfl, rfl⟩
            go_wp2_with fail
            go_ret
            exact ⟨by cases c3 <;> rfl, bel_new (bel_new (Below.refl _ _) _) _⟩
        · have hb1 : ¬ (xb : Int) ≤ (yb : Int) := by omega
          rw [show (decide (xb ≤ yb)) = false from decide_eq_false hb, Bool.false_and]
          clear hb
          go_enter Try.func18, Try.ntmps18
          go_wp2_with fail
          ((with_reducible refine (C1.out _).mono ?_))
          rintro e w2 ⟨rfl, rfl⟩
          go_wp2_with fail
          go_ret
          exact ⟨rfl, bel_new (bel_new (Below.refl _ _) _) _⟩
end Go.Proofs.Ytmffmoflelnmoaa

namespace Go.Proofs.Ytmffmoflelnmoaa
set_option maxRecDepth 100000
set_option linter.unusedVariables false
open Go.RowKit

theorem cast_ne0 (n : Nat) : ((n : Int) != 0) = (n != 0) := by
  by_cases h : n = 0
  · subst h; rfl
  · rw [bne_iff_ne.2 h, bne_iff_ne.2 (by omega : (n : Int) ≠ 0)]
theorem cast_eq0 (n : Nat) : ((n : Int) == 0) = (n == 0) := by
  by_cases h : n = 0
  · subst h; rfl
  · rw [beq_false_of_ne h, beq_false_of_ne (by omega : (n : Int) ≠ 0)]
theorem cast_eq (n m : Nat) : ((n : Int) == (m : Int)) = (n == m) := by
  by_cases h : n = m
  · subst h; simp
  · rw [beq_false_of_ne h, beq_false_of_ne (by omega : (n : Int) ≠ (m : Int))]

theorem has12_calls (g a : Nat) (hg : g < 4294967296) (ha : a < 4294967296) (w : World) : Calls Try.prog 44 #[.int .u32 (g : Int), .int .u32 (a : Int)] w fun e w' => e = .returned (.bool (subB a g)) ∧ w' = w := by
  have F : bits .and .u32 (g : Int) (a : Int) = ((g &&& a : Nat) : Int) := u32_and_nat g a hg ha
  have q : (((g &&& a : Nat) : Int) == (a : Int)) = subB a g := by rw [cast_eq]; unfold subB; rw [Nat.and_comm]
  generalize g &&& a = r at F q
  generalize subB a g = c at q
  cases c with
  | false =>
    go_enter Try.func44, Try.ntmps44
    go_wp2
    go_ret
    exact ⟨rfl, rfl⟩
  | true =>
    go_enter Try.func44, Try.ntmps44
    go_wp2
    go_ret
    exact ⟨rfl, rfl⟩

theorem allows12_calls (x : Wn) (hx : WnOk x) (g : Nat) (hg : g < 4294967296) (w : World) : Calls Try.prog 28 #[.agg #[.int .u64 (x.bw : Int), .int .i64 x.su, .int .i64 x.ho, .int .u32 (x.an : Int), .int .u32 (x.al : Int), .int .u32 (x.no : Int)], .int .u32 (g : Int)] w (Yes12 (wAllows x g) w) := by
  obtain ⟨b, s, h, an, al, no⟩ := x
  obtain ⟨k1, k2, k3⟩ := hx
  unfold Yes12 wAllows
  simp only at k1 k2 k3 ⊢
  have C2 := Lib.hid (fun w => has12_calls g al hg k2 w)
  have F1 : bits .and .u32 (g : Int) (an : Int) = ((g &&& an : Nat) : Int) := u32_and_nat g an hg k1
  have q1 : (((g &&& an : Nat) : Int) != 0) = comB an g := by rw [cast_ne0]; unfold comB; rw [Nat.and_comm]
  have F3 : bits .and .u32 (g : Int) (no : Int) = ((g &&& no : Nat) : Int) := u32_and_nat g no hg k3
  have q3 : (((g &&& no : Nat) : Int) == 0) = !comB no g := by
    rw [cast_eq0]
    unfold comB
    rw [Nat.and_comm no g]
    cases h : (g &&& no == 0) <;> simp [bne, h]
  have q0 := cast_eq0 an
  generalize g &&& an = r1 at F1 q1
  generalize g &&& no = r3 at F3 q3
  generalize subB al g = c2 at C2
  generalize comB an g = c1 at q1
  generalize (an == 0) = d0 at q0
  generalize (!comB no g) = c3 at q3
  clear hg k1 k2 k3
  cases d0 with
  | true =>
    clear F1 q1
    cases c2 with
    | false =>
      go_enter Try.func28, Try.ntmps28
      go_wp2_with fail
      ((with_reducible refine (C2.out _).mono ?_))
      rintro e w2 ⟨rfl, rfl⟩
      go_wp2_with fail
      go_ret
      exact ⟨rfl, bel_new (Below.refl _ _) _⟩
    | true =>
      cases c3 with
      | false =>
        go_enter Try.func28, Try.ntmps28
        go_wp2_with fail
        ((with_reducible refine (C2.out _).mono ?_))
        rintro e w2 ⟨rfl, rfl⟩
        go_wp2_with fail
        go_ret
        exact ⟨rfl, bel_new (Below.refl _ _) _⟩
      | true =>
        go_enter Try.func28, Try.ntmps28
        go_wp2_with fail
        ((with_reducible refine (C2.out _).mono ?_))
        rintro e w2 ⟨rfl, rfl⟩
        go_wp2_with fail
        go_ret
        exact ⟨rfl, bel_new (Below.refl _ _) _⟩
  | false =>
    cases c1 with
    | false =>
      go_enter Try.func28, Try.ntmps28
      go_wp2_with fail
      go_ret
      exact ⟨rfl, bel_new (Below.refl _ _) _⟩
    | true =>
      cases c2 with
      | false =>
        go_enter Try.func28, Try.ntmps28
        go_wp2_with fail
        ((with_reducible refine (C2.out _).mono ?_))
        rintro e w2 ⟨rfl, rfl⟩
        go_wp2_with fail
        go_ret
        exact ⟨rfl, bel_new (Below.refl _ _) _⟩
      | true =>
        cases c3 with
        | false =>
          go_enter Try.func28, Try.ntmps28
          go_wp2_with fail
          ((with_reducible refine (C2.out _).mono ?_))
          rintro e w2 ⟨rfl, rfl⟩
          go_wp2_with fail
          go_ret
          exact ⟨rfl, bel_new (Below.refl _ _) _⟩
        | true =>
          go_enter Try.func28, Try.ntmps28
          go_wp2_with fail
          ((with_reducible refine (C2.out _).mono ?_))
          rintro e w2 ⟨rfl, rfl⟩
          go_wp2_with fail
          go_ret
          exact ⟨rfl, bel_new (Below.refl _ _) _⟩

theorem right12_calls (x : Wn) (w : World) : Calls Try.prog 27 #[.agg #[.int .u64 (x.bw : Int), .int .i64 x.su, .int .i64 x.ho, .int .u32 (x.an : Int), .int .u32 (x.al : Int), .int .u32 (x.no : Int)]] w (Yes12 (wRight x) w) := by
  obtain ⟨b, s, h, an, al, no⟩ := x
  unfold Yes12 wRight
  simp only
  by_cases h1 : 0 ≤ h
  · by_cases h2 : h ≤ s
    · have hd : decide (0 ≤ s ∧ s ≤ 7 ∧ 0 ≤ h ∧ h ≤ s) = decide (s ≤ 7) := decide_eq_decide.2 (by omega)
      rw [hd]
      go_enter Try.func27, Try.ntmps27
      go_wp2_with fail
      go_ret
      exact ⟨rfl, bel_new (Below.refl _ _) _⟩
    · have hd : decide (0 ≤ s ∧ s ≤ 7 ∧ 0 ≤ h ∧ h ≤ s) = false := decide_eq_false (by omega)
      rw [hd]
      go_enter Try.func27, Try.ntmps27
      go_wp2_with fail
      go_ret
      exact ⟨rfl, bel_new (Below.refl _ _) _⟩
  · have hd : decide (0 ≤ s ∧ s ≤ 7 ∧ 0 ≤ h ∧ h ≤ s) = false := decide_eq_false (by omega)
    rw [hd]
    go_enter Try.func27, Try.ntmps27
    go_wp2_with fail
    go_ret
    exact ⟨rfl, bel_new (Below.refl _ _) _⟩

end Go.Proofs.Ytmffmoflelnmoaa
