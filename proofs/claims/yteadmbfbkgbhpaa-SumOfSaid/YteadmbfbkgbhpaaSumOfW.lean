/-
  The walk of the statement SumOf: for any bytes and any two numbers it answers true, and nothing that was there has turned. No condition.
-/
import Derived.Test.YteadmbfbkgbhpaaSumAlive
import Derived.Test.YteadmbfbkgbhpaaSumRef
namespace Go.Proofs.Yteadmbfbkgbhpaa
open Go.RowKit

theorem sumof_long (a : Option Addr) (n c : Nat) (x y : Int) (w : World) (hn : 4096 < n) (hm : n ≤ maxLen) :
    Calls Try.prog 3 #[.slice a n c, .int .u16 x, .int .u16 y] w fun e w' => e = .returned (.bool true) ∧ Below w.heap.size w w' := by
  unfold maxLen at hm
  go_enter Try.func3, Try.ntmps3
  go_wp2_with fail
  ((with_reducible refine (alive_calls w).mono ?_))
  rintro e w1 ⟨rfl, b1⟩
  go_wp2
  go_ret
  exact ⟨rfl, b1⟩

set_option maxHeartbeats 400000 in
theorem sumof_short (a : Option Addr) (n c : Nat) (l : List UInt8) (x y : Nat) (w : World) (h : Bts w w.heap.size a n l) (hn : n ≤ 4096) (hc : n ≤ c) (hx : x ≤ 65535) (hy : y ≤ 65535) :
    Calls Try.prog 3 #[.slice a n c, .int .u16 (x : Int), .int .u16 (y : Int)] w fun e w' => e = .returned (.bool true) ∧ Below w.heap.size w w' := by
  have HB := Lib.hid h
  have hz := oadd_le hx hy
  obtain ⟨z, hz0⟩ : ∃ z, z = oadd x y := ⟨_, rfl⟩
  have hv := ofL_le l
  obtain ⟨v, hv0⟩ : ∃ v, v = ofL l := ⟨_, rfl⟩
  rw [← hz0] at hz
  rw [← hv0] at hv
  have HZ := Lib.hid hz0
  have HV := Lib.hid hv0
  clear h hz0 hv0
  go_enter Try.func3, Try.ntmps3
  go_wp2_with fail
  ((with_reducible refine (alive_calls w).mono ?_))
  rintro e w1 ⟨rfl, b1⟩
  have B1 := Lib.hid b1
  have HB1 := Lib.hid ((HB.out.below b1).more b1.size)
  clear b1
  go_wp2_with fail
  ((with_reducible refine (add_calls x y w1 hx hy).mono ?_))
  rintro e w2 ⟨rfl, rfl⟩
  rw [← HZ.out]
  go_wp2_with fail
  ((with_reducible refine (refadd_calls x y w1 hx hy).mono ?_))
  rintro e w2 ⟨rfl, rfl⟩
  rw [← HZ.out]
  go_wp2_with fail
  ((with_reducible refine (of_calls a n c l w1 HB1.out (by omega) hc).mono ?_))
  rintro e w2 ⟨rfl, b2⟩
  rw [← HV.out]
  have B2 := Lib.hid (bel_more B1.out (Nat.le_refl _) b2)
  have HB2 := Lib.hid ((HB1.out.below b2).more b2.size)
  clear b2
  go_wp2_with fail
  ((with_reducible refine (refof_calls a n c l w2 _ HB2.out (by omega)).mono ?_))
  rintro e w3 ⟨rfl, rfl⟩
  rw [← HV.out]
  go_wp2_with fail
  ((with_reducible refine (right_calls a n c l w2 HB2.out (by omega) hc).mono ?_))
  rintro e w3 ⟨rfl, b3⟩
  rw [← HV.out]
  have B3 := Lib.hid (bel_more B2.out (Nat.le_refl _) b3)
  have HB3 := Lib.hid ((HB2.out.below b3).more b3.size)
  clear b3
  go_wp2_with fail
  ((with_reducible refine (refof_calls a n c l w3 _ HB3.out (by omega)).mono ?_))
  rintro e w4 ⟨rfl, rfl⟩
  rw [← HV.out]
  go_wp2
  go_ret
  refine ⟨?_, B3.out⟩
  by_cases h0 : v = 0
  · subst h0; rfl
  · have e0 : ((v : Int) == 0) = false := by simp; omega
    simp [h0]

theorem sumof_walk (a : Option Addr) (n c : Nat) (x y : Int) (w : World) (h : n ≤ maxLen ∧ ∃ l, Bts w w.heap.size a n l) (hc : n ≤ c) (hx : 0 ≤ x ∧ x < 65536) (hy : 0 ≤ y ∧ y < 65536) :
    Calls Try.prog 3 #[.slice a n c, .int .u16 x, .int .u16 y] w fun e w' => e = .returned (.bool true) ∧ Below w.heap.size w w' := by
  obtain ⟨hm, l, hl⟩ := h
  by_cases hn : n ≤ 4096
  · have := sumof_short a n c l x.toNat y.toNat w hl hn hc (by omega) (by omega)
    rwa [Int.toNat_of_nonneg hx.1, Int.toNat_of_nonneg hy.1] at this
  · exact sumof_long a n c x y w (by omega) hm
end Go.Proofs.Yteadmbfbkgbhpaa
