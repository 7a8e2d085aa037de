/-
  The walk of the statement SumSeals: for any bytes and any place it answers true, and nothing that was there has turned. No condition.
-/
import Derived.Test.YteadmbfbkgbhpaaSumAlive
import Derived.Test.YteadmbfbkgbhpaaSumRef
namespace Go.Proofs.Yteadmbfbkgbhpaa
open Go.RowKit

theorem seals_long (a : Option Addr) (n c : Nat) (i : Int) (w : World) (hn : 4096 < n) (hm : n ≤ maxLen) :
    Calls Try.prog 4 #[.slice a n c, .int .i64 i] w fun e w' => e = .returned (.bool true) ∧ Below w.heap.size w w' := by
  unfold maxLen at hm
  go_enter Try.func4, Try.ntmps4
  go_wp2_with fail
  ((with_reducible refine (alive_calls w).mono ?_))
  rintro e w1 ⟨rfl, b1⟩
  go_wp2
  go_ret
  exact ⟨rfl, b1⟩

set_option maxHeartbeats 400000 in
theorem seals_no (a : Option Addr) (n c : Nat) (i : Int) (w : World) (hn : n ≤ 4096) (hi : i < 9223372036854775808) (hbad : i < 0 ∨ i % 2 ≠ 0 ∨ (n : Int) - i < 2) :
    Calls Try.prog 4 #[.slice a n c, .int .i64 i] w fun e w' => e = .returned (.bool true) ∧ Below w.heap.size w w' := by
  have HBAD := Lib.hid hbad
  clear hbad
  have t1 := fun w0 : World => (Bts.nil (w := w0) (B := 0) (a := none)).text (P := Try.prog) (c := 0) 22 5 9 Try.underlying22 Try.underlying5 Try.underlying9
  go_enter Try.func4, Try.ntmps4
  go_wp2_with fail
  ((with_reducible refine (alive_calls w).mono ?_))
  rintro e w1 ⟨rfl, b1⟩
  have B1 := Lib.hid b1
  clear b1
  go_wp2_with fail
  ((with_reducible refine (seal_no a n c i w1 (by omega) hi HBAD.out).mono ?_))
  rintro e w2 ⟨rfl, rfl⟩
  go_wp2_with fail
  ((with_reducible refine (refseal_no a n c i w1 (by omega) hi HBAD.out).mono ?_))
  rintro e w2 ⟨rfl, rfl⟩
  go_wp2
  go_ret
  exact ⟨rfl, B1.out⟩

set_option maxHeartbeats 400000 in
theorem seals_ok (a : Option Addr) (n c : Nat) (l : List UInt8) (i : Nat) (w : World) (h : Bts w w.heap.size a n l) (hn : n ≤ 4096) (hc : n ≤ c) (hcm : c ≤ maxLen) (he : i % 2 = 0) (hat : i + 2 ≤ n) :
    Calls Try.prog 4 #[.slice a n c, .int .i64 (i : Int)] w fun e w' => e = .returned (.bool true) ∧ Below w.heap.size w w' := by
  have HB := Lib.hid h
  have HC := Lib.hid hcm
  have HR := Lib.hid (show ofL (sealL l i) = 0 from sealed_right l i he (by have := h.1; omega))
  have hsl : (sealL l i).length = n := by rw [sealL_length l i (by have := h.1; omega)]; exact h.1
  obtain ⟨s, hs⟩ : ∃ s, s = sealL l i := ⟨_, rfl⟩
  rw [← hs] at HR hsl
  have HS := Lib.hid hs
  have HSL := Lib.hid hsl
  have HE := Lib.hid he
  clear h hcm hs hsl he
  go_enter Try.func4, Try.ntmps4
  go_wp2_with fail
  ((with_reducible refine (alive_calls w).mono ?_))
  rintro e w1 ⟨rfl, b1⟩
  have B1 := Lib.hid b1
  have HB1 := Lib.hid ((HB.out.below b1).more b1.size)
  clear b1
  go_wp2_with fail
  ((with_reducible refine (seal_ok a n c l i w1 HB1.out (by omega) hc HC.out (by omega) (by have := HE.out; omega) (by omega)).mono ?_))
  rintro e w2 ⟨A2, c2, rfl, h2, b2⟩
  have h2' : Acc w2 w1.heap.size A2 c2 s := by rw [HS.out]; exact h2
  have hc2 : n ≤ c2 := by rw [← HSL.out]; exact h2'.cap
  have T2 : Bts w2 w2.heap.size A2 n s := by rw [← HSL.out]; exact h2'.bts
  have HT2 := Lib.hid T2
  have HB2 := Lib.hid ((HB1.out.below b2).more b2.size)
  have B2 := Lib.hid (bel_more B1.out (Nat.le_refl _) b2)
  clear h2 h2' T2 b2
  go_wp2_with fail
  ((with_reducible refine (refseal_ok a n c l i w2 HB2.out (by omega) HE.out hat).mono ?_))
  rintro e w3 ⟨A3, c3, rfl, h3, b3⟩
  have h3' : Acc w3 w2.heap.size A3 c3 s := by rw [HS.out]; exact h3
  have T3 : Bts w3 w3.heap.size A3 n s := by rw [← HSL.out]; exact h3'.bts
  have T2' := (HT2.out.below b3).more b3.size
  have HT3 := Lib.hid T2'
  have B3 := Lib.hid (bel_more B2.out (Nat.le_refl _) b3)
  have t1 := T2'.text (P := Try.prog) (c := c2) 22 5 9 Try.underlying22 Try.underlying5 Try.underlying9
  have t2 := T3.text (P := Try.prog) (c := c3) 22 5 9 Try.underlying22 Try.underlying5 Try.underlying9
  clear h3 h3' T3 T2' b3
  go_wp2_with fail
  ((with_reducible refine (right_calls A2 n c2 s w3 HT3.out (by omega) hc2).mono ?_))
  rintro e w4 ⟨rfl, b4⟩
  rw [HR.out]
  have B4 := Lib.hid (bel_more B3.out (Nat.le_refl _) b4)
  clear b4 t1 t2
  go_wp2
  go_ret
  exact ⟨rfl, B4.out⟩

theorem seals_walk (a : Option Addr) (n c : Nat) (i : Int) (w : World) (h : n ≤ maxLen ∧ ∃ l, Bts w w.heap.size a n l) (hc : n ≤ c ∧ c ≤ maxLen) (hi : -9223372036854775808 ≤ i ∧ i < 9223372036854775808) :
    Calls Try.prog 4 #[.slice a n c, .int .i64 i] w fun e w' => e = .returned (.bool true) ∧ Below w.heap.size w w' := by
  obtain ⟨hm, l, hl⟩ := h
  by_cases hn : n ≤ 4096
  · by_cases hbad : i < 0 ∨ i % 2 ≠ 0 ∨ (n : Int) - i < 2
    · exact seals_no a n c i w hn hi.2 hbad
    · have := seals_ok a n c l i.toNat w hl hn hc.1 hc.2 (by omega) (by omega)
      rwa [Int.toNat_of_nonneg (by omega)] at this
  · exact seals_long a n c i w (by omega) hm
end Go.Proofs.Yteadmbfbkgbhpaa
