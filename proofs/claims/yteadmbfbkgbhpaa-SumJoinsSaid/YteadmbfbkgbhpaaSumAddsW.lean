/-
  The walk of the statement SumAdds: for any three numbers it answers true, and nothing that was there has turned. No condition.
-/
import Derived.Test.YteadmbfbkgbhpaaSumAlive
namespace Go.Proofs.Yteadmbfbkgbhpaa
open Go.RowKit

theorem add_z (a b : Nat) (x y : Int) (w : World) (hx : x = (a : Int)) (hy : y = (b : Int)) (ha : a ≤ 65535) (hb : b ≤ 65535) :
    Calls Try.prog 10 #[.int .u16 x, .int .u16 y] w fun e w' => e = .returned (.int .u16 ((oadd a b : Nat) : Int)) ∧ w = w' := by
  subst hx; subst hy; exact add_calls a b w ha hb

set_option maxHeartbeats 400000 in
theorem adds_nat (a b c : Nat) (w : World) (ha : a ≤ 65535) (hb : b ≤ 65535) (hc : c ≤ 65535) :
    Calls Try.prog 8 #[.int .u16 (a : Int), .int .u16 (b : Int), .int .u16 (c : Int)] w fun e w' => e = .returned (.bool true) ∧ Below w.heap.size w w' := by
  have hab := oadd_le ha hb
  have hbc := oadd_le hb hc
  have E1 := Lib.hid (oadd_comm b a)
  have E2 := Lib.hid (oadd_assoc ha hb hc)
  have E3 := Lib.hid (oadd_zero ha)
  obtain ⟨x, hx⟩ : ∃ x, x = oadd a b := ⟨_, rfl⟩
  obtain ⟨y, hy⟩ : ∃ y, y = oadd b c := ⟨_, rfl⟩
  obtain ⟨z, hz⟩ : ∃ z, z = oadd a y := ⟨_, rfl⟩
  rw [← hx] at E1 E2 hab
  rw [← hy, ← hz] at E2
  rw [← hy] at hbc
  have HX := Lib.hid hx
  have HY := Lib.hid hy
  have HZ := Lib.hid hz
  clear hx hy hz
  go_enter Try.func8, Try.ntmps8
  go_wp2_with fail
  ((with_reducible refine (alive_calls w).mono ?_))
  rintro e w1 ⟨rfl, b1⟩
  have B1 := Lib.hid b1
  clear b1
  go_wp2_with fail
  ((with_reducible refine (add_calls a b w1 ha hb).mono ?_))
  rintro e w2 ⟨rfl, rfl⟩
  rw [← HX.out]
  go_wp2_with fail
  ((with_reducible refine (add_calls b a w1 hb ha).mono ?_))
  rintro e w2 ⟨rfl, rfl⟩
  rw [E1.out]
  go_wp2_with fail
  ((with_reducible refine (add_calls a b w1 ha hb).mono ?_))
  rintro e w2 ⟨rfl, rfl⟩
  rw [← HX.out]
  go_wp2_with fail
  ((with_reducible refine (add_calls x c w1 hab hc).mono ?_))
  rintro e w2 ⟨rfl, rfl⟩
  rw [E2.out]
  go_wp2_with fail
  ((with_reducible refine (add_calls b c w1 hb hc).mono ?_))
  rintro e w2 ⟨rfl, rfl⟩
  rw [← HY.out]
  go_wp2_with fail
  ((with_reducible refine (add_calls a y w1 ha hbc).mono ?_))
  rintro e w2 ⟨rfl, rfl⟩
  rw [← HZ.out]
  go_wp2_with fail
  ((with_reducible refine (add_z a 0 _ 0 w1 rfl (by omega) ha (by omega)).mono ?_))
  rintro e w2 ⟨rfl, rfl⟩
  rw [E3.out]
  go_wp2
  go_ret
  exact ⟨rfl, B1.out⟩

theorem adds_walk (a b c : Int) (w : World) (ha : 0 ≤ a ∧ a < 65536) (hb : 0 ≤ b ∧ b < 65536) (hc : 0 ≤ c ∧ c < 65536) :
    Calls Try.prog 8 #[.int .u16 a, .int .u16 b, .int .u16 c] w fun e w' => e = .returned (.bool true) ∧ Below w.heap.size w w' := by
  have := adds_nat a.toNat b.toNat c.toNat w (by omega) (by omega) (by omega)
  rwa [Int.toNat_of_nonneg ha.1, Int.toNat_of_nonneg hb.1, Int.toNat_of_nonneg hc.1] at this
end Go.Proofs.Yteadmbfbkgbhpaa
