/-
  The walk of the statement ObjectDecodes: for any bytes it answers true, and nothing that was there has turned. No condition.
-/
import Derived.Test.YtnmcfgoikffopaaObjAlive
import Derived.Test.YtnmcfgoikffopaaObjG
namespace Go.Proofs.Ytnmcfgoikffopaa
open Go.RowKit

set_option maxRecDepth 100000 in
set_option maxHeartbeats 2000000 in
theorem objDecodes_walk (a : Option Addr) (n c : Nat) (w : World) (h : (n ≤ c ∧ c ≤ maxLen) ∧ ∃ l, Bts w w.heap.size a n l) :
    Calls Try.prog 4 #[.slice a n c] w fun e w' => e = .returned (.bool true) ∧ Below w.heap.size w w' := by
  obtain ⟨⟨hnc, hcm⟩, l, hl⟩ := h
  have hm : n ≤ maxLen := Nat.le_trans hnc hcm
  have HB := Lib.hid hl
  have HM := Lib.hid hm
  have HNC := Lib.hid hnc
  have HCM := Lib.hid hcm
  unfold maxLen at hm
  clear hl hnc hcm
  go_enter Try.func4, Try.ntmps4
  go_wp2_with fail
  ((with_reducible refine (alive6_calls _).mono ?_))
  rintro e w1 ⟨rfl, b1⟩
  have K1 := Lib.hid b1
  have B1 := Lib.hid ((HB.out.below b1).more b1.size)
  clear b1
  by_cases hn : n ≤ 6000
  · go_wp2_with fail
    ((with_reducible refine (obdecode_calls a n c l w1 B1.out HM.out).mono ?_))
    rintro e w2 ⟨A2, c2, qs, rfl, v2, a2, s2, b2⟩
    have K2 := Lib.hid (bel_more K1.out (Nat.le_refl _) b2)
    have B2 := Lib.hid ((B1.out.below b2).more b2.size)
    have Q2 := Lib.hid (acco_objs (a2.lower (Nat.zero_le _)) (s2.lower (Nat.zero_le _)))
    have V2 := Lib.hid v2
    clear v2 a2 s2 b2
    go_wp2_with fail
    ((with_reducible refine (refdecode6_calls a n c l w2 B2.out HNC.out HCM.out).mono ?_))
    rintro e w3 ⟨A3, c3, ps, rfl, v3, p3, b3⟩
    have K3 := Lib.hid (bel_more K2.out (Nat.le_refl _) b3)
    have Q3 := Lib.hid (Q2.out.up b3)
    have P3 := Lib.hid p3
    have hv : vals qs = vals ps := by rw [V2.out, v3]
    have hlen : qs.length ≤ 32 := by rw [← vals_length, V2.out]; exact oDec_le l
    have HLP := Lib.hid (show ps.length = qs.length by rw [← vals_length, ← hv, vals_length])
    have HV := Lib.hid hv
    clear v3 p3 b3 hv Q2
    rw [HLP.out]
    rw [HLP.out] at P3
    generalize (oDec l).2 = E at *
    have HQL := Lib.hid (show qs.length = qs.length from rfl)
    generalize hN : qs.length = N at *
    have HN := Lib.hid hN
    clear hN HQL
    go_wp2_with fail
    ((with_reducible refine (ours_calls A2 N c2 qs w3 Q3.out (by omega)).mono ?_))
    rintro e w4 ⟨A4, c4, rfl, o4, b4⟩
    have K4 := Lib.hid (bel_more K3.out (Nat.le_refl _) b4)
    have P4 := Lib.hid (P3.out.up b4)
    have O4 := Lib.hid o4
    clear o4 b4
    rw [HN.out]
    rw [HN.out] at O4
    go_wp2_with fail
    ((with_reducible refine (same6_calls A4 A3 N c4 c3 qs ps _ _ w4 O4.out P4.out HV.out (by omega)).mono ?_))
    rintro e w5 ⟨rfl, md, rfl⟩
    go_wp2
    go_ret
    exact ⟨rfl, bel_drewN K4.out md⟩
  · go_wp2
    go_ret
    exact ⟨rfl, K1.out⟩
end Go.Proofs.Ytnmcfgoikffopaa
