/-
  The answers that the document fixes for layer 1 ('alive') come out: no condition.
-/
import Derived.Test.YtkjkgjkjjiejaaaOctF
namespace Go.Proofs.Ytkjkgjkjjiejaaa
open Go.RowKit

set_option maxHeartbeats 400000 in
theorem alive_calls (w : World) : Calls Try.prog 9 #[] w fun e w' => e = .returned (.bool true) ∧ Below w.heap.size w w' := by
  have o1 := Lib.hid (own_alloc w [1, 2, 3] #[.int .u8 1, .int .u8 2, .int .u8 3] rfl)
  go_enter Try.func9, Try.ntmps9
  go_wp2_with fail
  ((with_reducible refine (new_calls _ 3 3 [1, 2, 3] _ (o1.out.bts (by simp)) (by omega)).mono ?_))
  rintro e w1 ⟨r, g, rfl, hr, hg, h1, b1⟩
  have H1 := Lib.hid h1
  have B1 := Lib.hid b1
  clear h1 b1
  go_wp2_with fail
  ((with_reducible refine (uint_i H1.out _ (by omega) (by omega) (by simp)).mono ?_))
  rintro e w2 ⟨rfl, h2, u2⟩
  have H2 := Lib.hid h2
  clear h2
  have e1 : num (List.take (Int.toNat 2) (List.drop 0 [1, 2, 3])) = 258 := by decide
  rw [e1]
  clear e1
  go_wp2_with fail
  ((with_reducible refine (left_calls H2.out).mono ?_))
  rintro e w3 ⟨rfl, m, rfl⟩
  go_wp2_with fail
  ((with_reducible refine (uint_no (H2.out.drewN m) 2 (by decide)).mono ?_))
  rintro e w3 ⟨rfl, h3, u3⟩
  have H3 := Lib.hid h3
  clear h3
  go_wp2_with fail
  ((with_reducible refine (put_i none 0 0 [] _ _ w3 Bts.nil (by omega) (by omega) (by omega) (by omega) (by decide)).mono ?_))
  rintro e w4 ⟨rfl, h4, b4⟩
  have H4 := Lib.hid (H3.out.bel b4)
  have O4 := Lib.hid h4
  clear h4
  go_wp2_with fail
  ((with_reducible refine (err_calls H4.out).mono ?_))
  rintro e w5 ⟨rfl, rfl⟩
  have e2 : errOf 0 (wid 2) 2 (↑[(1 : UInt8), 2, 3].length - ↑(0 + Int.toNat 2)) = 4 := by decide
  rw [e2]
  have htx : ((convert 22 9 (.slice (some ⟨w3.heap.size, 0, none⟩) 2 2)).run Try.prog w4) = .ok (.string ⟨#[1, 2]⟩) w4 :=
    ((O4.out.bts O4.out.lt).text (P := Try.prog) (c := 2) 22 5 9 Try.underlying22 Try.underlying5 Try.underlying9).trans rfl
  clear e2
  go_wp2_with fail
  ((with_reducible refine (pad_calls _ 1 1 [1] _ ((own_alloc w4 [1] #[.int .u8 1] rfl).bts (by simp)) (by omega)).mono ?_))
  rintro e w5 ⟨rfl, h5, b5⟩
  clear htx
  have hg4 : (padL [1]).length = 4 := by decide
  rw [hg4]
  go_wp2
  go_ret
  refine ⟨rfl, ?_⟩
  simp at hr
  have k1 : Below w.heap.size w w1 := bel_more ((Below.refl _ w).alloc (Nat.le_refl _) _) (Nat.le_refl _) B1.out
  have k2 := bel_upd k1 u2 (Nat.le_refl _) (by omega)
  have k3 := bel_upd (bel_drewN k2 m) u3 (Nat.le_refl _) (by omega)
  have k4 := bel_more k3 (Nat.le_refl _) b4
  exact bel_more (k4.alloc k4.size _) (Nat.le_refl _) b5
end Go.Proofs.Ytkjkgjkjjiejaaa
