/-
  The code of layer 12 (group): has, coversAny, Allows, Right, Covers, and what the laws ask first of all. Condition: groups are numbers of 32 bits.
-/
import Derived.Test.YtgfahcdhbpaofaaGroupB
import Derived.Laws.BitsAllLaws
namespace Go.Proofs.Ytgfahcdhbpaofaa
set_option maxRecDepth 100000
set_option linter.unusedVariables false
open Go.RowKit

theorem cast_ne0 (n : Nat) : ((n : Int) != 0) = (n != 0) := by
  by_cases h : n = 0
  · subst h; rfl
  · rw [bne_iff_ne.2 h, bne_iff_ne.2 (by omega : (n : Int) ≠ 0)]
theorem cast_eq0 (n : Nat) : ((n : Int) == 0) = (n == 0) := by
  by_cases h : n = 0
  · subst h; rfl
  · rw [beq_false_of_ne h, beq_false_of_ne (by omega : (n : Int) ≠ 0)]
theorem cast_eq (n m : Nat) : ((n : Int) == (m : Int)) = (n == m) := by
  by_cases h : n = m
  · subst h; simp
  · rw [beq_false_of_ne h, beq_false_of_ne (by omega : (n : Int) ≠ (m : Int))]

theorem has12_calls (g a : Nat) (hg : g < 4294967296) (ha : a < 4294967296) (w : World) : Calls Try.prog 15 #[.int .u32 (g : Int), .int .u32 (a : Int)] w fun e w' => e = .returned (.bool (subB a g)) ∧ w' = w := by
  have F : bits .and .u32 (g : Int) (a : Int) = ((g &&& a : Nat) : Int) := u32_and_nat g a hg ha
  have q : (((g &&& a : Nat) : Int) == (a : Int)) = subB a g := by rw [cast_eq]; unfold subB; rw [Nat.and_comm]
  generalize g &&& a = r at F q
  generalize subB a g = c at q
  cases c with
  | false =>
    go_enter Try.func15, Try.ntmps15
    go_wp2
    go_ret
    exact ⟨rfl, rfl⟩
  | true =>
    go_enter Try.func15, Try.ntmps15
    go_wp2
    go_ret
    exact ⟨rfl, rfl⟩

theorem coversany12_calls (a b : Nat) (ha : a < 4294967296) (hb : b < 4294967296) (w : World) : Calls Try.prog 18 #[.int .u32 (a : Int), .int .u32 (b : Int)] w fun e w' => e = .returned (.bool (a == 0 || (b != 0 && subB b a))) ∧ w' = w := by
  have C := Lib.hid (fun w => has12_calls a b ha hb w)
  have q1 := cast_eq0 a
  have q2 := cast_ne0 b
  generalize subB b a = c at C
  generalize (a == 0) = d1 at q1
  generalize (b != 0) = d2 at q2
  cases d1 with
  | true =>
    clear q2
    go_enter Try.func18, Try.ntmps18
    go_wp2_with fail
    go_ret
    exact ⟨rfl, rfl⟩
  | false =>
    cases d2 with
    | false =>
      go_enter Try.func18, Try.ntmps18
      go_wp2_with fail
      go_ret
      exact ⟨rfl, rfl⟩
    | true =>
      go_enter Try.func18, Try.ntmps18
      go_wp2_with fail
      ((with_reducible refine (C.out _).mono ?_))
      rintro e w2 ⟨rfl, rfl⟩
      go_wp2_with fail
      go_ret
      exact ⟨by cases c <;> rfl, rfl⟩

theorem allows12_calls (x : Wn) (hx : WnOk x) (g : Nat) (hg : g < 4294967296) (w : World) : Calls Try.prog 9 #[.agg #[.int .u64 (x.bw : Int), .int .i64 x.su, .int .i64 x.ho, .int .u32 (x.an : Int), .int .u32 (x.al : Int), .int .u32 (x.no : Int)], .int .u32 (g : Int)] w (Yes12 (wAllows x g) w) := by
  obtain ⟨b, s, h, an, al, no⟩ := x
  obtain ⟨k1, k2, k3⟩ := hx
  unfold Yes12 wAllows
  simp only at k1 k2 k3 ⊢
  have C2 := Lib.hid (fun w => has12_calls g al hg k2 w)
  have F1 : bits .and .u32 (g : Int) (an : Int) = ((g &&& an : Nat) : Int) := u32_and_nat g an hg k1
  have q1 : (((g &&& an : Nat) : Int) != 0) = comB an g := by rw [cast_ne0]; unfold comB; rw [Nat.and_comm]
  have F3 : bits .and .u32 (g : Int) (no : Int) = ((g &&& no : Nat) : Int) := u32_and_nat g no hg k3
  have q3 : (((g &&& no : Nat) : Int) == 0) = !comB no g := by
    rw [cast_eq0]
    unfold comB
    rw [Nat.and_comm no g]
    cases h : (g &&& no == 0) <;> simp [bne, h]
  have q0 := cast_eq0 an
  generalize g &&& an = r1 at F1 q1
  generalize g &&& no = r3 at F3 q3
  generalize subB al g = c2 at C2
  generalize comB an g = c1 at q1
  generalize (an == 0) = d0 at q0
  generalize (!comB no g) = c3 at q3
  clear hg k1 k2 k3
  cases d0 with
  | true =>
    clear F1 q1
    cases c2 with
    | false =>
      go_enter Try.func9, Try.ntmps9
      go_wp2_with fail
      ((with_reducible refine (C2.out _).mono ?_))
      rintro e w2 ⟨rfl, rfl⟩
      go_wp2_with fail
      go_ret
      exact ⟨rfl, bel_new (Below.refl _ _) _⟩
    | true =>
      cases c3 with
      | false =>
        go_enter Try.func9, Try.ntmps9
        go_wp2_with fail
        ((with_reducible refine (C2.out _).mono ?_))
        rintro e w2 ⟨rfl, rfl⟩
        go_wp2_with fail
        go_ret
        exact ⟨rfl, bel_new (Below.refl _ _) _⟩
      | true =>
        go_enter Try.func9, Try.ntmps9
        go_wp2_with fail
        ((with_reducible refine (C2.out _).mono ?_))
        rintro e w2 ⟨rfl, rfl⟩
        go_wp2_with fail
        go_ret
        exact ⟨rfl, bel_new (Below.refl _ _) _⟩
  | false =>
    cases c1 with
    | false =>
      go_enter Try.func9, Try.ntmps9
      go_wp2_with fail
      go_ret
      exact ⟨rfl, bel_new (Below.refl _ _) _⟩
    | true =>
      cases c2 with
      | false =>
        go_enter Try.func9, Try.ntmps9
        go_wp2_with fail
        ((with_reducible refine (C2.out _).mono ?_))
        rintro e w2 ⟨rfl, rfl⟩
        go_wp2_with fail
        go_ret
        exact ⟨rfl, bel_new (Below.refl _ _) _⟩
      | true =>
        cases c3 with
        | false =>
          go_enter Try.func9, Try.ntmps9
          go_wp2_with fail
          ((with_reducible refine (C2.out _).mono ?_))
          rintro e w2 ⟨rfl, rfl⟩
          go_wp2_with fail
          go_ret
          exact ⟨rfl, bel_new (Below.refl _ _) _⟩
        | true =>
          go_enter Try.func9, Try.ntmps9
          go_wp2_with fail
          ((with_reducible refine (C2.out _).mono ?_))
          rintro e w2 ⟨rfl, rfl⟩
          go_wp2_with fail
          go_ret
          exact ⟨rfl, bel_new (Below.refl _ _) _⟩

theorem right12_calls (x : Wn) (w : World) : Calls Try.prog 11 #[.agg #[.int .u64 (x.bw : Int), .int .i64 x.su, .int .i64 x.ho, .int .u32 (x.an : Int), .int .u32 (x.al : Int), .int .u32 (x.no : Int)]] w (Yes12 (wRight x) w) := by
  obtain ⟨b, s, h, an, al, no⟩ := x
  unfold Yes12 wRight
  simp only
  by_cases h1 : 0 ≤ h
  · by_cases h2 : h ≤ s
    · have hd : decide (0 ≤ s ∧ s ≤ 7 ∧ 0 ≤ h ∧ h ≤ s) = decide (s ≤ 7) := decide_eq_decide.2 (by omega)
      rw [hd]
      go_enter Try.func11, Try.ntmps11
      go_wp2_with fail
      go_ret
      exact ⟨rfl, bel_new (Below.refl _ _) _⟩
    · have hd : decide (0 ≤ s ∧ s ≤ 7 ∧ 0 ≤ h ∧ h ≤ s) = false := decide_eq_false (by omega)
      rw [hd]
      go_enter Try.func11, Try.ntmps11
      go_wp2_with fail
      go_ret
      exact ⟨rfl, bel_new (Below.refl _ _) _⟩
  · have hd : decide (0 ≤ s ∧ s ≤ 7 ∧ 0 ≤ h ∧ h ≤ s) = false := decide_eq_false (by omega)
    rw [hd]
    go_enter Try.func11, Try.ntmps11
    go_wp2_with fail
    go_ret
    exact ⟨rfl, bel_new (Below.refl _ _) _⟩

theorem covers12_calls (x y : Wn) (hx : WnOk x) (hy : WnOk y) (w : World) : Calls Try.prog 13 #[.agg #[.int .u64 (x.bw : Int), .int .i64 x.su, .int .i64 x.ho, .int .u32 (x.an : Int), .int .u32 (x.al : Int), .int .u32 (x.no : Int)], .agg #[.int .u64 (y.bw : Int), .int .i64 y.su, .int .i64 y.ho, .int .u32 (y.an : Int), .int .u32 (y.al : Int), .int .u32 (y.no : Int)]] w (Yes12 (wCovers x y) w) := by
  obtain ⟨xb, xs, xh, xan, xal, xno⟩ := x
  obtain ⟨yb, ys, yh, yan, yal, yno⟩ := y
  obtain ⟨k1, k2, k3⟩ := hx
  obtain ⟨l1, l2, l3⟩ := hy
  unfold Yes12 wCovers
  simp only at k1 k2 k3 l1 l2 l3 ⊢
  have C1 := Lib.hid (fun w => coversany12_calls xan yan k1 l1 w)
  have C2 := Lib.hid (fun w => has12_calls yal xal l2 k2 w)
  have C3 := Lib.hid (fun w => has12_calls yno xno l3 k3 w)
  generalize (xan == 0 || (yan != 0 && subB yan xan)) = c1 at C1
  generalize subB xal yal = c2 at C2
  generalize subB xno yno = c3 at C3
  clear k1 k2 k3 l1 l2 l3
  by_cases hb : xb ≤ yb
  · have hb1 : (xb : Int) ≤ (yb : Int) := by omega
    rw [show (decide (xb ≤ yb)) = true from decide_eq_true hb, Bool.true_and]
    clear hb
    cases c2 with
    | false =>
      go_enter Try.func13, Try.ntmps13
      go_wp2_with fail
      ((with_reducible refine (C2.out _).mono ?_))
      rintro e w2 ⟨rfl, rfl⟩
      go_wp2_with fail
      go_ret
      exact ⟨by cases c1 <;> rfl, bel_new (bel_new (Below.refl _ _) _) _⟩
    | true =>
      cases c3 with
      | false =>
        go_enter Try.func13, Try.ntmps13
        go_wp2_with fail
        ((with_reducible refine (C2.out _).mono ?_))
        rintro e w2 ⟨rfl, rfl⟩
        go_wp2_with fail
        ((with_reducible refine (C3.out _).mono ?_))
        rintro e w2 ⟨rfl, rfl⟩
        go_wp2_with fail
        go_ret
        exact ⟨by cases c1 <;> rfl, bel_new (bel_new (Below.refl _ _) _) _⟩
      | true =>
        go_enter Try.func13, Try.ntmps13
        go_wp2_with fail
        ((with_reducible refine (C2.out _).mono ?_))
        rintro e w2 ⟨rfl, rfl⟩
        go_wp2_with fail
        ((with_reducible refine (C3.out _).mono ?_))
        rintro e w2 ⟨rfl, rfl⟩
        go_wp2_with fail
        ((with_reducible refine (C1.out _).mono ?_))
        rintro e w2 ⟨rfl, rfl⟩
        go_wp2_with fail
        go_ret
        exact ⟨by cases c1 <;> rfl, bel_new (bel_new (Below.refl _ _) _) _⟩
  · have hb1 : ¬ (xb : Int) ≤ (yb : Int) := by omega
    rw [show (decide (xb ≤ yb)) = false from decide_eq_false hb, Bool.false_and, Bool.and_false]
    clear hb
    go_enter Try.func13, Try.ntmps13
    go_wp2_with fail
    go_ret
    exact ⟨rfl, bel_new (bel_new (Below.refl _ _) _) _⟩

theorem alive12_calls (w : World) : Calls Try.prog 8 #[] w (Yes12 true w) := by
  have A1 := Lib.hid (fun w => (show Calls Try.prog 9 #[.agg #[.int .u64 0, .int .i64 0, .int .i64 0, .int .u32 0, .int .u32 2, .int .u32 4], .int .u32 3] w (Yes12 true w) from allows12_calls ⟨0, 0, 0, 0, 2, 4⟩ ⟨by decide, by decide, by decide⟩ 3 (by decide) w))
  have A2 := Lib.hid (fun w => (show Calls Try.prog 9 #[.agg #[.int .u64 0, .int .i64 0, .int .i64 0, .int .u32 6, .int .u32 0, .int .u32 0], .int .u32 1] w (Yes12 false w) from allows12_calls ⟨0, 0, 0, 6, 0, 0⟩ ⟨by decide, by decide, by decide⟩ 1 (by decide) w))
  have A3 := Lib.hid (fun w => (show Calls Try.prog 11 #[.agg #[.int .u64 0, .int .i64 5, .int .i64 3, .int .u32 0, .int .u32 0, .int .u32 0]] w (Yes12 true w) from right12_calls ⟨0, 5, 3, 0, 0, 0⟩ w))
  have A4 := Lib.hid (fun w => (show Calls Try.prog 11 #[.agg #[.int .u64 0, .int .i64 0, .int .i64 1, .int .u32 0, .int .u32 0, .int .u32 0]] w (Yes12 false w) from right12_calls ⟨0, 0, 1, 0, 0, 0⟩ w))
  have A5 := Lib.hid (fun w => (show Calls Try.prog 13 #[.agg #[.int .u64 0, .int .i64 0, .int .i64 0, .int .u32 6, .int .u32 0, .int .u32 0], .agg #[.int .u64 0, .int .i64 0, .int .i64 0, .int .u32 2, .int .u32 0, .int .u32 0]] w (Yes12 true w) from covers12_calls ⟨0, 0, 0, 6, 0, 0⟩ ⟨0, 0, 0, 2, 0, 0⟩ ⟨by decide, by decide, by decide⟩ ⟨by decide, by decide, by decide⟩ w))
  go_enter Try.func8, Try.ntmps8
  go_wp2_with fail
  ((with_reducible refine (A1.out _).mono ?_))
  rintro e w1 ⟨rfl, b1⟩
  have B1 := Lib.hid b1
  clear b1
  go_wp2_with fail
  ((with_reducible refine (A2.out _).mono ?_))
  rintro e w2 ⟨rfl, b2⟩
  have B2 := Lib.hid (show Below w.heap.size w w2 from B1.out.trans (b2.mono B1.out.size))
  clear b2
  go_wp2_with fail
  ((with_reducible refine (A3.out _).mono ?_))
  rintro e w3 ⟨rfl, b3⟩
  have B3 := Lib.hid (show Below w.heap.size w w3 from B2.out.trans (b3.mono B2.out.size))
  clear b3
  go_wp2_with fail
  ((with_reducible refine (A4.out _).mono ?_))
  rintro e w4 ⟨rfl, b4⟩
  have B4 := Lib.hid (show Below w.heap.size w w4 from B3.out.trans (b4.mono B3.out.size))
  clear b4
  go_wp2_with fail
  ((with_reducible refine (A5.out _).mono ?_))
  rintro e w5 ⟨rfl, b5⟩
  have B5 := Lib.hid (show Below w.heap.size w w5 from B4.out.trans (b5.mono B4.out.size))
  clear b5
  go_wp2_with fail
  go_ret
  exact ⟨rfl, B5.out⟩
end Go.Proofs.Ytgfahcdhbpaofaa
