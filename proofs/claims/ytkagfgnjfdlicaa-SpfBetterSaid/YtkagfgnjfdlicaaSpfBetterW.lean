/-
  The law SpfBetter, walked: under what the calls of spf are to answer, the answer is true for all arguments, and nothing that was there has turned.
-/
import Derived.Test.YtkagfgnjfdlicaaSpfC
namespace Go.Proofs.Ytkagfgnjfdlicaa
set_option maxRecDepth 100000
open Go.RowKit

set_option maxRecDepth 100000 in
set_option maxHeartbeats 4000000 in
theorem better_walk (hB : BetterOk) (hS : BestOk) (c0 c1 : Int) (p q : Option Addr) (m c k d : Nat) (w : World) (h : m ≤ c ∧ c ≤ maxLen ∧ ∃ r, Row ei w w.heap.size p m r) (h2 : k ≤ d ∧ d ≤ maxLen ∧ ∃ r, Row ei w w.heap.size q k r) :
    Calls Try.prog 3 #[.agg #[.int .i64 c0, .int .i64 c1], .slice p m c, .slice q k d] w fun e w' => e = .returned (.bool true) ∧ Below w.heap.size w w' := by
  obtain ⟨_, hcm, r, hR⟩ := h
  obtain ⟨_, hdm, s, hQ⟩ := h2
  have HR := Lib.hid hR
  have HQ := Lib.hid hQ
  have HB := Lib.hid hB
  unfold maxLen at hcm hdm
  go_enter Try.func3, Try.ntmps3
  go_wp2_with fail
  have hb1 : Below w.heap.size w (w.alloc (.cells #[.int .i64 c0, .int .i64 c1] 22)) := bel_new (Below.refl _ _) _
  have hx1 : Blk (w.alloc (.cells #[.int .i64 c0, .int .i64 c1] 22)) w.heap.size 22 [.int .i64 c0, .int .i64 c1] := Blk.new w _ _
  generalize w.alloc (.cells #[.int .i64 c0, .int .i64 c1] 22) = w1 at hb1 hx1 ⊢
  have ha := alive11_calls hB hS w1
  have B1 := Lib.hid hb1
  have X1 := Lib.hid hx1
  clear hb1 hx1 hR hQ hB hS
  ((with_reducible refine ha.mono ?_))
  rintro e w2 ⟨rfl, hb2⟩
  have B2 := Lib.hid (B1.out.trans (hb2.mono B1.out.size))
  have X2 := Lib.hid (X1.out.below hb2)
  clear ha hb2
  by_cases h1 : 100 < m
  · have g1 : (100 : Int) < (m : Int) := by omega
    go_wp2
    go_ret
    exact ⟨rfl, B2.out⟩
  by_cases h2 : 100 < k
  · have g1 : ¬ (100 : Int) < (m : Int) := by omega
    have g2 : (100 : Int) < (k : Int) := by omega
    go_wp2
    go_ret
    exact ⟨rfl, B2.out⟩
  have g1 : decide ((100 : Int) < (m : Int)) = false := by simp; omega
  have g2 : decide ((100 : Int) < (k : Int)) = false := by simp; omega
  have g3 : decide (100 < m) = false := by simp; omega
  have g4 : decide (100 < k) = false := by simp; omega
  have R2 := Lib.hid ((HR.out.below B2.out).more B2.out.size)
  have Q2 := Lib.hid ((HQ.out.below B2.out).more B2.out.size)
  have XC := Lib.hid (show ∀ W, Below w2.heap.size w2 W → W.cell? ⟨w.heap.size, 0, none⟩ = some (.int .i64 c0) ∧ W.cell? ⟨w.heap.size, 1, none⟩ = some (.int .i64 c1) from fun W hW => ⟨(X2.out.below hW).cell 0, (X2.out.below hW).cell 1⟩)
  have hcases : (c0 ≠ c1 ∧ decide (bet (c0, r) (c1, s)) = true ∧ decide (bet (c1, s) (c0, r)) = false) ∨ (c0 ≠ c1 ∧ decide (bet (c0, r) (c1, s)) = false ∧ decide (bet (c1, s) (c0, r)) = true) ∨ (c0 = c1 ∧ decide (r = s) = true ∧ decide (bet (c0, r) (c1, s)) = false ∧ decide (bet (c1, s) (c0, r)) = false) ∨
      (c0 = c1 ∧ decide (r = s) = false ∧ decide (bet (c0, r) (c1, s)) = true ∧ decide (bet (c1, s) (c0, r)) = false) ∨ (c0 = c1 ∧ decide (r = s) = false ∧ decide (bet (c0, r) (c1, s)) = false ∧ decide (bet (c1, s) (c0, r)) = true) := by
    simp only [decide_eq_true_eq, decide_eq_false_iff_not]
    by_cases e : c0 = c1
    · by_cases e2 : r = s
      · subst e
        subst e2
        exact .inr (.inr (.inl ⟨rfl, rfl, bet_irrefl _, bet_irrefl _⟩))
      · rcases bet_total (c0, r) (c1, s) with h | h | h
        · exact .inr (.inr (.inr (.inl ⟨e, e2, h, bet_asymm h⟩)))
        · injection h with _ h; exact absurd h e2
        · exact .inr (.inr (.inr (.inr ⟨e, e2, bet_asymm h, h⟩)))
    · rcases bet_total (c0, r) (c1, s) with h | h | h
      · exact .inl ⟨e, h, bet_asymm h⟩
      · injection h with h _; exact absurd h e
      · exact .inr (.inl ⟨e, bet_asymm h, h⟩)
  clear h1 h2
  rcases hcases with ⟨hc, hx, hy⟩ | ⟨hc, hx, hy⟩ | ⟨hc, hd, hx, hy⟩ | ⟨hc, hd, hx, hy⟩ | ⟨hc, hd, hx, hy⟩
  · skip
    have hb1 : ∀ W, Below w2.heap.size w2 W → Calls Try.prog 10 #[.int .i64 c0, .slice p m c, .int .i64 c1, .slice q k d] W (fun e W' => e = .returned (.bool true) ∧ Below W.heap.size W W') := fun W hW => by
      have := HB.out c0 c1 p q m k c d r s W ((R2.out.below hW).more hW.size) ((Q2.out.below hW).more hW.size) (by simp at g3; omega) (by simp at g4; omega)
      rw [hx] at this
      exact this
    have hb2 : ∀ W, Below w2.heap.size w2 W → Calls Try.prog 10 #[.int .i64 c1, .slice q k d, .int .i64 c0, .slice p m c] W (fun e W' => e = .returned (.bool false) ∧ Below W.heap.size W W') := fun W hW => by
      have := HB.out c1 c0 q p k m d c s r W ((Q2.out.below hW).more hW.size) ((R2.out.below hW).more hW.size) (by simp at g4; omega) (by simp at g3; omega)
      rw [hy] at this
      exact this
    have hrb : ∀ W, Below w2.heap.size w2 W → Calls Try.prog 12 #[.int .i64 c0, .slice p m c, .int .i64 c1, .slice q k d] W (fun e W' => e = .returned (.bool true) ∧ ∃ j, W' = W.drewN j) := fun W hW => by
      have := rbetter_calls c0 c1 p q m k c d W.heap.size W.heap.size r s W ((R2.out.below hW).more hW.size) ((Q2.out.below hW).more hW.size) (by simp at g3; omega) (by simp at g4; omega)
      unfold BetPost at this
      rw [hx] at this
      exact this
    have hsi : ∀ W, Below w2.heap.size w2 W → Calls Try.prog 11 #[.slice p m c, .slice q k d] W (fun e W' => e = .returned (.bool (decide (r = s))) ∧ ∃ j, W' = W.drewN j) := fun W hW => by
      have := sameints_calls p q m k c d W.heap.size W.heap.size r s W ((R2.out.below hW).more hW.size) ((Q2.out.below hW).more hW.size) (by simp at g3; omega) (by simp at g4; omega)
      exact this
    have HB1 := Lib.hid hb1
    have HB2 := Lib.hid hb2
    have HRB := Lib.hid hrb
    have HSI := Lib.hid hsi
    have HX := Lib.hid hx
    have HY := Lib.hid hy
    have hcb : (c0 == c1) = false := by simpa using hc
    clear hb1 hb2 hrb hsi hx hy
    go_wp2_with fail
    refine region_seq (fun W => Below w2.heap.size w2 W) [(0, true), (1, true), (2, true), (3, true), (4, true), (5, true), (7, true), (8, true), (9, true), (10, true), (11, true), (12, true), (6, false), (13, false), (14, true), (15, true)]
      (by kernel_rfl) (by kernel_rfl) (by kernel_rfl) (by kernel_rfl) (fun _ _ _ _ _ h => h) (Below.refl _ _).drew ?_
    repeat
      refine seq_pure (v := ?_) rfl (by rfl) (fun W hW => ?_) ?_
      rotate_left
      · have t0 := (XC.out W hW).1
        have t1 := (XC.out W hW).2
        clear hW
        go_simp
        with_reducible rfl
      simp only [Act.put, List.setIfInBounds_toArray, List.set_cons_zero, List.set_cons_succ]
    refine seq_make rfl (by rfl) (fun K hK => ?_)
    go_simp
    ((with_reducible refine (HB1.out w2.drew (Below.refl _ _).drew).mono ?_))
    rintro e w3 ⟨rfl, hb3⟩
    have C3 := Lib.hid (show Below w2.heap.size w2 w3 from below_of_drew hb3)
    clear hb3
    go_simp
    refine hK _ _ (fun W => Below w2.heap.size w2 W) (fun W h => h) C3.out ?_
    clear hK K
    refine seq_make rfl (by rfl) (fun K hK => ?_)
    go_simp
    ((with_reducible refine (HB2.out w3 C3.out).mono ?_))
    rintro e w4 ⟨rfl, hb4⟩
    have C4 := Lib.hid (show Below w2.heap.size w2 w4 from C3.out.trans (hb4.mono C3.out.size))
    clear hb4
    go_simp
    refine hK _ _ (fun W => Below w2.heap.size w2 W) (fun W h => h) C4.out ?_
    clear hK K
    repeat
      refine seq_pure (v := ?_) rfl (by rfl) (fun W hW => ?_) ?_
      rotate_left
      · clear hW
        go_simp
        with_reducible rfl
      simp only [Act.put, List.setIfInBounds_toArray, List.set_cons_zero, List.set_cons_succ]
    refine seq_done ?_
    have t0 := (XC.out w4 C4.out).1
    have t1 := (XC.out w4 C4.out).2
    obtain ⟨w5, hw5⟩ : ∃ w5, w5 = w4 := ⟨_, rfl⟩
    have C5 := Lib.hid (show Below w2.heap.size w2 w5 from by rw [hw5]; exact C4.out)
    subst hw5
    go_wp2_with fail
    ((with_reducible refine (HRB.out w5 C5.out).mono ?_))
    rintro e w6 ⟨rfl, j6, hj6⟩
    have C6 := Lib.hid (show Below w2.heap.size w2 w6 from by rw [hj6]; exact bel_drewN C5.out j6)
    clear hj6
    go_wp2
    go_ret
    exact ⟨rfl, B2.out.trans (C6.out.mono B2.out.size)⟩
  · skip
    have hb1 : ∀ W, Below w2.heap.size w2 W → Calls Try.prog 10 #[.int .i64 c0, .slice p m c, .int .i64 c1, .slice q k d] W (fun e W' => e = .returned (.bool false) ∧ Below W.heap.size W W') := fun W hW => by
      have := HB.out c0 c1 p q m k c d r s W ((R2.out.below hW).more hW.size) ((Q2.out.below hW).more hW.size) (by simp at g3; omega) (by simp at g4; omega)
      rw [hx] at this
      exact this
    have hb2 : ∀ W, Below w2.heap.size w2 W → Calls Try.prog 10 #[.int .i64 c1, .slice q k d, .int .i64 c0, .slice p m c] W (fun e W' => e = .returned (.bool true) ∧ Below W.heap.size W W') := fun W hW => by
      have := HB.out c1 c0 q p k m d c s r W ((Q2.out.below hW).more hW.size) ((R2.out.below hW).more hW.size) (by simp at g4; omega) (by simp at g3; omega)
      rw [hy] at this
      exact this
    have hrb : ∀ W, Below w2.heap.size w2 W → Calls Try.prog 12 #[.int .i64 c0, .slice p m c, .int .i64 c1, .slice q k d] W (fun e W' => e = .returned (.bool false) ∧ ∃ j, W' = W.drewN j) := fun W hW => by
      have := rbetter_calls c0 c1 p q m k c d W.heap.size W.heap.size r s W ((R2.out.below hW).more hW.size) ((Q2.out.below hW).more hW.size) (by simp at g3; omega) (by simp at g4; omega)
      unfold BetPost at this
      rw [hx] at this
      exact this
    have hsi : ∀ W, Below w2.heap.size w2 W → Calls Try.prog 11 #[.slice p m c, .slice q k d] W (fun e W' => e = .returned (.bool (decide (r = s))) ∧ ∃ j, W' = W.drewN j) := fun W hW => by
      have := sameints_calls p q m k c d W.heap.size W.heap.size r s W ((R2.out.below hW).more hW.size) ((Q2.out.below hW).more hW.size) (by simp at g3; omega) (by simp at g4; omega)
      exact this
    have HB1 := Lib.hid hb1
    have HB2 := Lib.hid hb2
    have HRB := Lib.hid hrb
    have HSI := Lib.hid hsi
    have HX := Lib.hid hx
    have HY := Lib.hid hy
    have hcb : (c0 == c1) = false := by simpa using hc
    clear hb1 hb2 hrb hsi hx hy
    go_wp2_with fail
    refine region_seq (fun W => Below w2.heap.size w2 W) [(0, true), (1, true), (2, true), (3, true), (4, true), (5, true), (7, true), (8, true), (9, true), (10, true), (11, true), (12, true), (6, false), (13, false), (14, true), (15, true)]
      (by kernel_rfl) (by kernel_rfl) (by kernel_rfl) (by kernel_rfl) (fun _ _ _ _ _ h => h) (Below.refl _ _).drew ?_
    repeat
      refine seq_pure (v := ?_) rfl (by rfl) (fun W hW => ?_) ?_
      rotate_left
      · have t0 := (XC.out W hW).1
        have t1 := (XC.out W hW).2
        clear hW
        go_simp
        with_reducible rfl
      simp only [Act.put, List.setIfInBounds_toArray, List.set_cons_zero, List.set_cons_succ]
    refine seq_make rfl (by rfl) (fun K hK => ?_)
    go_simp
    ((with_reducible refine (HB1.out w2.drew (Below.refl _ _).drew).mono ?_))
    rintro e w3 ⟨rfl, hb3⟩
    have C3 := Lib.hid (show Below w2.heap.size w2 w3 from below_of_drew hb3)
    clear hb3
    go_simp
    refine hK _ _ (fun W => Below w2.heap.size w2 W) (fun W h => h) C3.out ?_
    clear hK K
    refine seq_make rfl (by rfl) (fun K hK => ?_)
    go_simp
    ((with_reducible refine (HB2.out w3 C3.out).mono ?_))
    rintro e w4 ⟨rfl, hb4⟩
    have C4 := Lib.hid (show Below w2.heap.size w2 w4 from C3.out.trans (hb4.mono C3.out.size))
    clear hb4
    go_simp
    refine hK _ _ (fun W => Below w2.heap.size w2 W) (fun W h => h) C4.out ?_
    clear hK K
    repeat
      refine seq_pure (v := ?_) rfl (by rfl) (fun W hW => ?_) ?_
      rotate_left
      · clear hW
        go_simp
        with_reducible rfl
      simp only [Act.put, List.setIfInBounds_toArray, List.set_cons_zero, List.set_cons_succ]
    refine seq_done ?_
    have t0 := (XC.out w4 C4.out).1
    have t1 := (XC.out w4 C4.out).2
    obtain ⟨w5, hw5⟩ : ∃ w5, w5 = w4 := ⟨_, rfl⟩
    have C5 := Lib.hid (show Below w2.heap.size w2 w5 from by rw [hw5]; exact C4.out)
    subst hw5
    go_wp2_with fail
    ((with_reducible refine (HRB.out w5 C5.out).mono ?_))
    rintro e w6 ⟨rfl, j6, hj6⟩
    have C6 := Lib.hid (show Below w2.heap.size w2 w6 from by rw [hj6]; exact bel_drewN C5.out j6)
    clear hj6
    go_wp2
    go_ret
    exact ⟨rfl, B2.out.trans (C6.out.mono B2.out.size)⟩
  · skip
    have hb1 : ∀ W, Below w2.heap.size w2 W → Calls Try.prog 10 #[.int .i64 c0, .slice p m c, .int .i64 c1, .slice q k d] W (fun e W' => e = .returned (.bool false) ∧ Below W.heap.size W W') := fun W hW => by
      have := HB.out c0 c1 p q m k c d r s W ((R2.out.below hW).more hW.size) ((Q2.out.below hW).more hW.size) (by simp at g3; omega) (by simp at g4; omega)
      rw [hx] at this
      exact this
    have hb2 : ∀ W, Below w2.heap.size w2 W → Calls Try.prog 10 #[.int .i64 c1, .slice q k d, .int .i64 c0, .slice p m c] W (fun e W' => e = .returned (.bool false) ∧ Below W.heap.size W W') := fun W hW => by
      have := HB.out c1 c0 q p k m d c s r W ((Q2.out.below hW).more hW.size) ((R2.out.below hW).more hW.size) (by simp at g4; omega) (by simp at g3; omega)
      rw [hy] at this
      exact this
    have hrb : ∀ W, Below w2.heap.size w2 W → Calls Try.prog 12 #[.int .i64 c0, .slice p m c, .int .i64 c1, .slice q k d] W (fun e W' => e = .returned (.bool false) ∧ ∃ j, W' = W.drewN j) := fun W hW => by
      have := rbetter_calls c0 c1 p q m k c d W.heap.size W.heap.size r s W ((R2.out.below hW).more hW.size) ((Q2.out.below hW).more hW.size) (by simp at g3; omega) (by simp at g4; omega)
      unfold BetPost at this
      rw [hx] at this
      exact this
    have hsi : ∀ W, Below w2.heap.size w2 W → Calls Try.prog 11 #[.slice p m c, .slice q k d] W (fun e W' => e = .returned (.bool true) ∧ ∃ j, W' = W.drewN j) := fun W hW => by
      have := sameints_calls p q m k c d W.heap.size W.heap.size r s W ((R2.out.below hW).more hW.size) ((Q2.out.below hW).more hW.size) (by simp at g3; omega) (by simp at g4; omega)
      rw [hd] at this
      exact this
    have HB1 := Lib.hid hb1
    have HB2 := Lib.hid hb2
    have HRB := Lib.hid hrb
    have HSI := Lib.hid hsi
    have HX := Lib.hid hx
    have HY := Lib.hid hy
    subst hc
    clear hb1 hb2 hrb hsi hx hy
    go_wp2_with fail
    refine region_seq (fun W => Below w2.heap.size w2 W) [(0, true), (1, true), (2, true), (3, true), (4, true), (5, true), (7, true), (8, true), (9, true), (10, true), (11, true), (12, true), (6, false), (13, false), (14, true), (15, true)]
      (by kernel_rfl) (by kernel_rfl) (by kernel_rfl) (by kernel_rfl) (fun _ _ _ _ _ h => h) (Below.refl _ _).drew ?_
    repeat
      refine seq_pure (v := ?_) rfl (by rfl) (fun W hW => ?_) ?_
      rotate_left
      · have t0 := (XC.out W hW).1
        have t1 := (XC.out W hW).2
        clear hW
        go_simp
        with_reducible rfl
      simp only [Act.put, List.setIfInBounds_toArray, List.set_cons_zero, List.set_cons_succ]
    refine seq_make rfl (by rfl) (fun K hK => ?_)
    go_simp
    ((with_reducible refine (HB1.out w2.drew (Below.refl _ _).drew).mono ?_))
    rintro e w3 ⟨rfl, hb3⟩
    have C3 := Lib.hid (show Below w2.heap.size w2 w3 from below_of_drew hb3)
    clear hb3
    go_simp
    refine hK _ _ (fun W => Below w2.heap.size w2 W) (fun W h => h) C3.out ?_
    clear hK K
    refine seq_make rfl (by rfl) (fun K hK => ?_)
    go_simp
    ((with_reducible refine (HB2.out w3 C3.out).mono ?_))
    rintro e w4 ⟨rfl, hb4⟩
    have C4 := Lib.hid (show Below w2.heap.size w2 w4 from C3.out.trans (hb4.mono C3.out.size))
    clear hb4
    go_simp
    refine hK _ _ (fun W => Below w2.heap.size w2 W) (fun W h => h) C4.out ?_
    clear hK K
    repeat
      refine seq_pure (v := ?_) rfl (by rfl) (fun W hW => ?_) ?_
      rotate_left
      · clear hW
        go_simp
        with_reducible rfl
      simp only [Act.put, List.setIfInBounds_toArray, List.set_cons_zero, List.set_cons_succ]
    refine seq_done ?_
    have t0 := (XC.out w4 C4.out).1
    have t1 := (XC.out w4 C4.out).2
    go_wp2_with fail
    ((with_reducible refine (HSI.out w4 C4.out).mono ?_))
    rintro e w5 ⟨rfl, j5, hj5⟩
    have C5 := Lib.hid (show Below w2.heap.size w2 w5 from by rw [hj5]; exact bel_drewN C4.out j5)
    clear hj5 t0 t1
    have t0 := (XC.out w5 C5.out).1
    have t1 := (XC.out w5 C5.out).2
    go_wp2_with fail
    ((with_reducible refine (HRB.out w5 C5.out).mono ?_))
    rintro e w6 ⟨rfl, j6, hj6⟩
    have C6 := Lib.hid (show Below w2.heap.size w2 w6 from by rw [hj6]; exact bel_drewN C5.out j6)
    clear hj6
    go_wp2
    go_ret
    exact ⟨rfl, B2.out.trans (C6.out.mono B2.out.size)⟩
  · skip
    have hb1 : ∀ W, Below w2.heap.size w2 W → Calls Try.prog 10 #[.int .i64 c0, .slice p m c, .int .i64 c1, .slice q k d] W (fun e W' => e = .returned (.bool true) ∧ Below W.heap.size W W') := fun W hW => by
      have := HB.out c0 c1 p q m k c d r s W ((R2.out.below hW).more hW.size) ((Q2.out.below hW).more hW.size) (by simp at g3; omega) (by simp at g4; omega)
      rw [hx] at this
      exact this
    have hb2 : ∀ W, Below w2.heap.size w2 W → Calls Try.prog 10 #[.int .i64 c1, .slice q k d, .int .i64 c0, .slice p m c] W (fun e W' => e = .returned (.bool false) ∧ Below W.heap.size W W') := fun W hW => by
      have := HB.out c1 c0 q p k m d c s r W ((Q2.out.below hW).more hW.size) ((R2.out.below hW).more hW.size) (by simp at g4; omega) (by simp at g3; omega)
      rw [hy] at this
      exact this
    have hrb : ∀ W, Below w2.heap.size w2 W → Calls Try.prog 12 #[.int .i64 c0, .slice p m c, .int .i64 c1, .slice q k d] W (fun e W' => e = .returned (.bool true) ∧ ∃ j, W' = W.drewN j) := fun W hW => by
      have := rbetter_calls c0 c1 p q m k c d W.heap.size W.heap.size r s W ((R2.out.below hW).more hW.size) ((Q2.out.below hW).more hW.size) (by simp at g3; omega) (by simp at g4; omega)
      unfold BetPost at this
      rw [hx] at this
      exact this
    have hsi : ∀ W, Below w2.heap.size w2 W → Calls Try.prog 11 #[.slice p m c, .slice q k d] W (fun e W' => e = .returned (.bool false) ∧ ∃ j, W' = W.drewN j) := fun W hW => by
      have := sameints_calls p q m k c d W.heap.size W.heap.size r s W ((R2.out.below hW).more hW.size) ((Q2.out.below hW).more hW.size) (by simp at g3; omega) (by simp at g4; omega)
      rw [hd] at this
      exact this
    have HB1 := Lib.hid hb1
    have HB2 := Lib.hid hb2
    have HRB := Lib.hid hrb
    have HSI := Lib.hid hsi
    have HX := Lib.hid hx
    have HY := Lib.hid hy
    subst hc
    clear hb1 hb2 hrb hsi hx hy
    go_wp2_with fail
    refine region_seq (fun W => Below w2.heap.size w2 W) [(0, true), (1, true), (2, true), (3, true), (4, true), (5, true), (7, true), (8, true), (9, true), (10, true), (11, true), (12, true), (6, false), (13, false), (14, true), (15, true)]
      (by kernel_rfl) (by kernel_rfl) (by kernel_rfl) (by kernel_rfl) (fun _ _ _ _ _ h => h) (Below.refl _ _).drew ?_
    repeat
      refine seq_pure (v := ?_) rfl (by rfl) (fun W hW => ?_) ?_
      rotate_left
      · have t0 := (XC.out W hW).1
        have t1 := (XC.out W hW).2
        clear hW
        go_simp
        with_reducible rfl
      simp only [Act.put, List.setIfInBounds_toArray, List.set_cons_zero, List.set_cons_succ]
    refine seq_make rfl (by rfl) (fun K hK => ?_)
    go_simp
    ((with_reducible refine (HB1.out w2.drew (Below.refl _ _).drew).mono ?_))
    rintro e w3 ⟨rfl, hb3⟩
    have C3 := Lib.hid (show Below w2.heap.size w2 w3 from below_of_drew hb3)
    clear hb3
    go_simp
    refine hK _ _ (fun W => Below w2.heap.size w2 W) (fun W h => h) C3.out ?_
    clear hK K
    refine seq_make rfl (by rfl) (fun K hK => ?_)
    go_simp
    ((with_reducible refine (HB2.out w3 C3.out).mono ?_))
    rintro e w4 ⟨rfl, hb4⟩
    have C4 := Lib.hid (show Below w2.heap.size w2 w4 from C3.out.trans (hb4.mono C3.out.size))
    clear hb4
    go_simp
    refine hK _ _ (fun W => Below w2.heap.size w2 W) (fun W h => h) C4.out ?_
    clear hK K
    repeat
      refine seq_pure (v := ?_) rfl (by rfl) (fun W hW => ?_) ?_
      rotate_left
      · clear hW
        go_simp
        with_reducible rfl
      simp only [Act.put, List.setIfInBounds_toArray, List.set_cons_zero, List.set_cons_succ]
    refine seq_done ?_
    have t0 := (XC.out w4 C4.out).1
    have t1 := (XC.out w4 C4.out).2
    go_wp2_with fail
    ((with_reducible refine (HSI.out w4 C4.out).mono ?_))
    rintro e w5 ⟨rfl, j5, hj5⟩
    have C5 := Lib.hid (show Below w2.heap.size w2 w5 from by rw [hj5]; exact bel_drewN C4.out j5)
    clear hj5 t0 t1
    have t0 := (XC.out w5 C5.out).1
    have t1 := (XC.out w5 C5.out).2
    go_wp2_with fail
    ((with_reducible refine (HRB.out w5 C5.out).mono ?_))
    rintro e w6 ⟨rfl, j6, hj6⟩
    have C6 := Lib.hid (show Below w2.heap.size w2 w6 from by rw [hj6]; exact bel_drewN C5.out j6)
    clear hj6
    go_wp2
    go_ret
    exact ⟨rfl, B2.out.trans (C6.out.mono B2.out.size)⟩
  · skip
    have hb1 : ∀ W, Below w2.heap.size w2 W → Calls Try.prog 10 #[.int .i64 c0, .slice p m c, .int .i64 c1, .slice q k d] W (fun e W' => e = .returned (.bool false) ∧ Below W.heap.size W W') := fun W hW => by
      have := HB.out c0 c1 p q m k c d r s W ((R2.out.below hW).more hW.size) ((Q2.out.below hW).more hW.size) (by simp at g3; omega) (by simp at g4; omega)
      rw [hx] at this
      exact this
    have hb2 : ∀ W, Below w2.heap.size w2 W → Calls Try.prog 10 #[.int .i64 c1, .slice q k d, .int .i64 c0, .slice p m c] W (fun e W' => e = .returned (.bool true) ∧ Below W.heap.size W W') := fun W hW => by
      have := HB.out c1 c0 q p k m d c s r W ((Q2.out.below hW).more hW.size) ((R2.out.below hW).more hW.size) (by simp at g4; omega) (by simp at g3; omega)
      rw [hy] at this
      exact this
    have hrb : ∀ W, Below w2.heap.size w2 W → Calls Try.prog 12 #[.int .i64 c0, .slice p m c, .int .i64 c1, .slice q k d] W (fun e W' => e = .returned (.bool false) ∧ ∃ j, W' = W.drewN j) := fun W hW => by
      have := rbetter_calls c0 c1 p q m k c d W.heap.size W.heap.size r s W ((R2.out.below hW).more hW.size) ((Q2.out.below hW).more hW.size) (by simp at g3; omega) (by simp at g4; omega)
      unfold BetPost at this
      rw [hx] at this
      exact this
    have hsi : ∀ W, Below w2.heap.size w2 W → Calls Try.prog 11 #[.slice p m c, .slice q k d] W (fun e W' => e = .returned (.bool false) ∧ ∃ j, W' = W.drewN j) := fun W hW => by
      have := sameints_calls p q m k c d W.heap.size W.heap.size r s W ((R2.out.below hW).more hW.size) ((Q2.out.below hW).more hW.size) (by simp at g3; omega) (by simp at g4; omega)
      rw [hd] at this
      exact this
    have HB1 := Lib.hid hb1
    have HB2 := Lib.hid hb2
    have HRB := Lib.hid hrb
    have HSI := Lib.hid hsi
    have HX := Lib.hid hx
    have HY := Lib.hid hy
    subst hc
    clear hb1 hb2 hrb hsi hx hy
    go_wp2_with fail
    refine region_seq (fun W => Below w2.heap.size w2 W) [(0, true), (1, true), (2, true), (3, true), (4, true), (5, true), (7, true), (8, true), (9, true), (10, true), (11, true), (12, true), (6, false), (13, false), (14, true), (15, true)]
      (by kernel_rfl) (by kernel_rfl) (by kernel_rfl) (by kernel_rfl) (fun _ _ _ _ _ h => h) (Below.refl _ _).drew ?_
    repeat
      refine seq_pure (v := ?_) rfl (by rfl) (fun W hW => ?_) ?_
      rotate_left
      · have t0 := (XC.out W hW).1
        have t1 := (XC.out W hW).2
        clear hW
        go_simp
        with_reducible rfl
      simp only [Act.put, List.setIfInBounds_toArray, List.set_cons_zero, List.set_cons_succ]
    refine seq_make rfl (by rfl) (fun K hK => ?_)
    go_simp
    ((with_reducible refine (HB1.out w2.drew (Below.refl _ _).drew).mono ?_))
    rintro e w3 ⟨rfl, hb3⟩
    have C3 := Lib.hid (show Below w2.heap.size w2 w3 from below_of_drew hb3)
    clear hb3
    go_simp
    refine hK _ _ (fun W => Below w2.heap.size w2 W) (fun W h => h) C3.out ?_
    clear hK K
    refine seq_make rfl (by rfl) (fun K hK => ?_)
    go_simp
    ((with_reducible refine (HB2.out w3 C3.out).mono ?_))
    rintro e w4 ⟨rfl, hb4⟩
    have C4 := Lib.hid (show Below w2.heap.size w2 w4 from C3.out.trans (hb4.mono C3.out.size))
    clear hb4
    go_simp
    refine hK _ _ (fun W => Below w2.heap.size w2 W) (fun W h => h) C4.out ?_
    clear hK K
    repeat
      refine seq_pure (v := ?_) rfl (by rfl) (fun W hW => ?_) ?_
      rotate_left
      · clear hW
        go_simp
        with_reducible rfl
      simp only [Act.put, List.setIfInBounds_toArray, List.set_cons_zero, List.set_cons_succ]
    refine seq_done ?_
    have t0 := (XC.out w4 C4.out).1
    have t1 := (XC.out w4 C4.out).2
    go_wp2_with fail
    ((with_reducible refine (HSI.out w4 C4.out).mono ?_))
    rintro e w5 ⟨rfl, j5, hj5⟩
    have C5 := Lib.hid (show Below w2.heap.size w2 w5 from by rw [hj5]; exact bel_drewN C4.out j5)
    clear hj5 t0 t1
    have t0 := (XC.out w5 C5.out).1
    have t1 := (XC.out w5 C5.out).2
    go_wp2_with fail
    ((with_reducible refine (HRB.out w5 C5.out).mono ?_))
    rintro e w6 ⟨rfl, j6, hj6⟩
    have C6 := Lib.hid (show Below w2.heap.size w2 w6 from by rw [hj6]; exact bel_drewN C5.out j6)
    clear hj6
    go_wp2
    go_ret
    exact ⟨rfl, B2.out.trans (C6.out.mono B2.out.size)⟩
end Go.Proofs.Ytkagfgnjfdlicaa
