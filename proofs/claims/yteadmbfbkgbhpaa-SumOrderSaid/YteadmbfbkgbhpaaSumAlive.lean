/-
  The answers that the document fixes for layer 2 ('alive') come out: no condition.
-/
import Derived.Test.YteadmbfbkgbhpaaSumC
namespace Go.Proofs.Yteadmbfbkgbhpaa
open Go.RowKit

set_option maxHeartbeats 400000 in
theorem alive_calls (w : World) : Calls Try.prog 9 #[] w fun e w' => e = .returned (.bool true) ∧ Below w.heap.size w w' := by
  have o1 := Lib.hid (own_alloc w [1, 2, 0, 0] #[.int .u8 1, .int .u8 2, .int .u8 0, .int .u8 0] rfl)
  have k1 := Lib.hid ((Below.refl w.heap.size w).alloc (Nat.le_refl _) (.cells #[.int .u8 1, .int .u8 2, .int .u8 0, .int .u8 0] 5))
  go_enter Try.func9, Try.ntmps9
  go_wp2_with fail
  ((with_reducible refine (seal_ok _ 4 4 [1, 2, 0, 0] 2 _ (o1.out.bts (by simp)) (by omega) (by omega) (by unfold maxLen; omega) (by omega) (by omega) (by omega)).mono ?_))
  rintro e w1 ⟨A, c, rfl, h1, b1⟩
  have e1 : sealL [1, 2, 0, 0] (Int.toNat 2) = [1, 2, 254, 253] := by decide +kernel
  rw [e1] at h1
  have hc : 4 ≤ c := h1.cap
  have K1 := Lib.hid (bel_more k1.out (Nat.le_refl _) b1)
  have H1 := Lib.hid (show Bts w1 w1.heap.size A 4 [1, 2, 254, 253] from h1.bts)
  clear e1 h1 b1
  have o2 := Lib.hid (own_alloc w1 [0, 1, 242, 3, 244, 245, 246, 247] #[.int .u8 0, .int .u8 1, .int .u8 242, .int .u8 3, .int .u8 244, .int .u8 245, .int .u8 246, .int .u8 247] rfl)
  have k2 := Lib.hid ((Below.refl w1.heap.size w1).alloc (Nat.le_refl _) (.cells #[.int .u8 0, .int .u8 1, .int .u8 242, .int .u8 3, .int .u8 244, .int .u8 245, .int .u8 246, .int .u8 247] 5))
  go_wp2_with fail
  ((with_reducible refine (of_calls _ 8 8 [0, 1, 242, 3, 244, 245, 246, 247] _ (o2.out.bts (by simp)) (by omega) (by omega)).mono ?_))
  rintro e w2 ⟨rfl, b2⟩
  have e2 : ofL [0, 1, 242, 3, 244, 245, 246, 247] = 8717 := by decide +kernel
  rw [e2]
  have K2 := Lib.hid (bel_more k2.out (Nat.le_refl _) b2)
  have H2 := Lib.hid ((H1.out.below K2.out).more K2.out.size)
  clear e2 b2 k1 k2 o1 o2
  go_wp2_with fail
  ((with_reducible refine (add_i 65535 1 _ (by omega) (by omega) (by omega) (by omega)).mono ?_))
  rintro e w3 ⟨rfl, rfl⟩
  have e3 : oadd (Int.toNat 65535) (Int.toNat 1) = 1 := by decide
  rw [e3]
  clear e3
  have htx : ((convert 22 9 (.slice A 4 c)).run Try.prog w2) = .ok (.string ⟨#[1, 2, 254, 253]⟩) w2 :=
    (H2.out.text (P := Try.prog) (c := c) 22 5 9 Try.underlying22 Try.underlying5 Try.underlying9).trans rfl
  go_wp2_with fail
  ((with_reducible refine (right_calls A 4 c [1, 2, 254, 253] w2 H2.out (by omega) hc).mono ?_))
  rintro e w3 ⟨rfl, b3⟩
  have e4 : decide (ofL [1, 2, 254, 253] = 0) = true := by decide +kernel
  rw [e4]
  clear e4 htx
  have K3 := Lib.hid (bel_more (bel_more K1.out (Nat.le_refl _) K2.out) (Nat.le_refl _) b3)
  clear b3
  go_wp2
  go_ret
  exact ⟨rfl, K3.out⟩
end Go.Proofs.Yteadmbfbkgbhpaa
