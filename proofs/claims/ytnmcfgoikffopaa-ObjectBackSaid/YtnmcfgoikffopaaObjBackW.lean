/-
  The walk of the statement ObjectBack: for any objects and any bytes it answers true, and nothing that was there has turned. No condition.
-/
import Derived.Test.YtnmcfgoikffopaaObjAlive
import Derived.Test.YtnmcfgoikffopaaObjG
namespace Go.Proofs.Ytnmcfgoikffopaa
open Go.RowKit

set_option maxRecDepth 100000 in
set_option maxHeartbeats 4000000 in
theorem objBack_walk (a a2 : Option Addr) (n c n2 c2 : Nat) (w : World) (h : n ≤ maxLen ∧ ∃ qs, Objs w w.heap.size a n qs) (hb : n2 ≤ maxLen ∧ ∃ l, Bts w w.heap.size a2 n2 l) :
    Calls Try.prog 5 #[.slice a n c, .slice a2 n2 c2] w fun e w' => e = .returned (.bool true) ∧ Below w.heap.size w w' := by
  obtain ⟨hm, qs, hq⟩ := h
  obtain ⟨hm2, b, hl⟩ := hb
  have HQ := Lib.hid hq
  have HM := Lib.hid hm
  have HL := Lib.hid hq.len
  have HB := Lib.hid hl
  have HM2 := Lib.hid hm2
  have HLB := Lib.hid hl.1
  unfold maxLen at hm2
  clear hq hm hl
  go_enter Try.func5, Try.ntmps5
  go_wp2_with fail
  ((with_reducible refine (alive6_calls _).mono ?_))
  rintro e w1 ⟨rfl, b1⟩
  have K1 := Lib.hid b1
  have Q1 := Lib.hid (HQ.out.up b1)
  have B1 := Lib.hid ((HB.out.below b1).more b1.size)
  clear b1
  go_wp2_with fail
  ((with_reducible refine (fits6_calls a n c qs _ w1 Q1.out HM.out).mono ?_))
  rintro e w1' ⟨r, rfl, hr, rfl⟩
  cases r with
  | false =>
    go_wp2
    go_ret
    exact ⟨rfl, K1.out⟩
  | true =>
    have hn : n ≤ 100 := (hr rfl).1
    clear hr
    by_cases hn2 : n2 ≤ 6000
    · go_wp2_with fail
      ((with_reducible refine (theirs_calls a n c qs w1 Q1.out (by omega)).mono ?_))
      rintro e w2 ⟨A2, cc2, rfl, o2, b2⟩
      have K2 := Lib.hid (bel_more K1.out (Nat.le_refl _) b2)
      have Q2 := Lib.hid (Q1.out.up b2)
      have B2 := Lib.hid ((B1.out.below b2).more b2.size)
      have O2 := Lib.hid o2
      clear o2 b2
      rw [HL.out]
      rw [HL.out] at O2
      go_wp2_with fail
      ((with_reducible refine (obencode_calls A2 n cc2 qs w2 O2.out HM.out).mono ?_))
      rintro e w3 ⟨A3, cc3, rfl, a3, b3⟩
      have K3 := Lib.hid (bel_more K2.out (Nat.le_refl _) b3)
      have Q3 := Lib.hid (Q2.out.up b3)
      have B3 := Lib.hid ((B2.out.below b3).more b3.size)
      have X3 := Lib.hid a3.bts
      have hxl := oEnc_le (vals qs)
      clear a3 b3 O2
      by_cases hE : oErr (vals qs) = 0
      · have HBack := Lib.hid (obj_back hE)
        rw [hE]
        clear hE
        generalize oEnc (vals qs) = X at *
        have hxm : X.length ≤ maxLen := by unfold maxLen; omega
        have HXM := Lib.hid hxm
        clear hxm
        go_wp2_with fail
        ((with_reducible refine (obdecode_calls A3 X.length cc3 X w3 X3.out HXM.out).mono ?_))
        rintro e w4 ⟨A4, cc4, rs, rfl, v4, a4, s4, b4⟩
        rw [HBack.out] at v4 ⊢
        simp only at v4 ⊢
        have K4 := Lib.hid (bel_more K3.out (Nat.le_refl _) b4)
        have Q4 := Lib.hid (Q3.out.up b4)
        have B4 := Lib.hid ((B3.out.below b4).more b4.size)
        have O4 := Lib.hid (acco_objs (a4.lower (Nat.zero_le _)) (s4.lower (Nat.zero_le _)))
        have hrl : rs.length = n := by rw [← vals_length, v4, vals_length, HL.out]
        have HRL := Lib.hid hrl
        have V4 := Lib.hid v4
        clear v4 a4 s4 b4 hrl X3
        rw [HRL.out]
        rw [HRL.out] at O4
        go_wp2_with fail
        ((with_reducible refine (ours_calls A4 n cc4 rs w4 O4.out (by omega)).mono ?_))
        rintro e w5 ⟨A5, cc5, rfl, o5, b5⟩
        have K5 := Lib.hid (bel_more K4.out (Nat.le_refl _) b5)
        have Q5 := Lib.hid (Q4.out.up b5)
        have B5 := Lib.hid ((B4.out.below b5).more b5.size)
        have O5 := Lib.hid o5
        clear o5 b5
        rw [HRL.out]
        rw [HRL.out] at O5
        go_wp2_with fail
        ((with_reducible refine (same6_calls A5 a n cc5 c rs qs _ _ w5 O5.out Q5.out V4.out (by omega)).mono ?_))
        rintro e w6 ⟨rfl, md, rfl⟩
        have K6 := Lib.hid (bel_drewN K5.out md)
        have B6 := Lib.hid (show Bts (w5.drewN md) (w5.drewN md).heap.size a2 n2 b from B5.out)
        generalize w5.drewN md = w6 at *
        go_wp2_with fail
        ((with_reducible refine (obdecode_calls a2 n2 c2 b w6 B6.out HM2.out).mono ?_))
        rintro e t1 ⟨A7, c7, ps, rfl, v7, a7, s7, b7⟩
        have KT1 := Lib.hid (bel_more K6.out (Nat.le_refl _) b7)
        have BT1 := Lib.hid ((B6.out.below b7).more b7.size)
        have P7 := Lib.hid (acco_objs (a7.lower (Nat.zero_le _)) (s7.lower (Nat.zero_le _)))
        have hpl : ps.length ≤ 32 := by rw [← vals_length, v7]; exact oDec_le b
        by_cases hE2 : (oDec b).2 = 0
        · obtain ⟨z1, z2⟩ := obj_own hE2
          rw [← v7] at z1 z2
          have Z1 := Lib.hid z1
          have Z2 := Lib.hid z2
          rw [hE2]
          clear v7 a7 s7 b7 z1 z2 hE2
          generalize hPN : ps.length = PN at *
          clear hPN
          have hpm : PN ≤ maxLen := by unfold maxLen; omega
          have HPM := Lib.hid hpm
          clear hpm
          go_wp2_with fail
          ((with_reducible refine (obencode_calls A7 PN c7 ps t1 P7.out HPM.out).mono ?_))
          rintro e t2 ⟨A8, c8, rfl, a8, b8⟩
          rw [Z1.out, Z2.out]
          rw [Z2.out] at a8
          have KT2 := Lib.hid (bel_more KT1.out (Nat.le_refl _) b8)
          have BT2 := Lib.hid ((BT1.out.below b8).more b8.size)
          have P8 := Lib.hid (P7.out.up b8)
          have X8 := Lib.hid a8.bts
          clear a8 b8
          rw [HLB.out]
          rw [HLB.out] at X8
          go_wp2_with fail
          ((with_reducible refine (size_calls A7 PN c7 ps t2 P8.out HPM.out).mono ?_))
          rintro e t3 ⟨rfl, b9⟩
          rw [Z1.out, Z2.out, HLB.out]
          have KT3 := Lib.hid (bel_more KT2.out (Nat.le_refl _) b9)
          have BT3 := BT2.out.below b9
          have X9 := X8.out.below b9
          have t1x := X9.text (P := Try.prog) (c := c8) 25 5 9 Try.underlying25 Try.underlying5 Try.underlying9
          have t2x := BT3.text (P := Try.prog) (c := c2) 25 5 9 Try.underlying25 Try.underlying5 Try.underlying9
          clear b9 BT3 X9
          go_wp2
          go_ret
          exact ⟨rfl, KT3.out⟩
        · have hEb : ((oDec b).2 == 0) = false := by rw [beq_eq_false_iff_ne]; exact hE2
          clear v7 a7 s7 b7
          generalize (oDec b).2 = E2 at *
          clear hE2
          go_wp2
          go_ret
          exact ⟨rfl, KT1.out⟩
      · have hEb : (oErr (vals qs) == 0) = false := by rw [beq_eq_false_iff_ne]; exact hE
        generalize oErr (vals qs) = E at *
        generalize (oEnc (vals qs)).length = NX at *
        clear hE
        go_wp2_with fail
        ((with_reducible refine (obdecode_calls a2 n2 c2 b w3 B3.out HM2.out).mono ?_))
        rintro e t1 ⟨A7, c7, ps, rfl, v7, a7, s7, b7⟩
        have KT1 := Lib.hid (bel_more K3.out (Nat.le_refl _) b7)
        have BT1 := Lib.hid ((B3.out.below b7).more b7.size)
        have P7 := Lib.hid (acco_objs (a7.lower (Nat.zero_le _)) (s7.lower (Nat.zero_le _)))
        have hpl : ps.length ≤ 32 := by rw [← vals_length, v7]; exact oDec_le b
        by_cases hE2 : (oDec b).2 = 0
        · obtain ⟨z1, z2⟩ := obj_own hE2
          rw [← v7] at z1 z2
          have Z1 := Lib.hid z1
          have Z2 := Lib.hid z2
          rw [hE2]
          clear v7 a7 s7 b7 z1 z2 hE2
          generalize hPN : ps.length = PN at *
          clear hPN
          have hpm : PN ≤ maxLen := by unfold maxLen; omega
          have HPM := Lib.hid hpm
          clear hpm
          go_wp2_with fail
          ((with_reducible refine (obencode_calls A7 PN c7 ps t1 P7.out HPM.out).mono ?_))
          rintro e t2 ⟨A8, c8, rfl, a8, b8⟩
          rw [Z1.out, Z2.out]
          rw [Z2.out] at a8
          have KT2 := Lib.hid (bel_more KT1.out (Nat.le_refl _) b8)
          have BT2 := Lib.hid ((BT1.out.below b8).more b8.size)
          have P8 := Lib.hid (P7.out.up b8)
          have X8 := Lib.hid a8.bts
          clear a8 b8
          rw [HLB.out]
          rw [HLB.out] at X8
          go_wp2_with fail
          ((with_reducible refine (size_calls A7 PN c7 ps t2 P8.out HPM.out).mono ?_))
          rintro e t3 ⟨rfl, b9⟩
          rw [Z1.out, Z2.out, HLB.out]
          have KT3 := Lib.hid (bel_more KT2.out (Nat.le_refl _) b9)
          have BT3 := BT2.out.below b9
          have X9 := X8.out.below b9
          have t1x := X9.text (P := Try.prog) (c := c8) 25 5 9 Try.underlying25 Try.underlying5 Try.underlying9
          have t2x := BT3.text (P := Try.prog) (c := c2) 25 5 9 Try.underlying25 Try.underlying5 Try.underlying9
          clear b9 BT3 X9
          go_wp2
          go_ret
          exact ⟨rfl, KT3.out⟩
        · have hEb : ((oDec b).2 == 0) = false := by rw [beq_eq_false_iff_ne]; exact hE2
          clear v7 a7 s7 b7
          generalize (oDec b).2 = E2 at *
          clear hE2
          go_wp2
          go_ret
          exact ⟨rfl, KT1.out⟩
    · go_wp2
      go_ret
      exact ⟨rfl, K1.out⟩
end Go.Proofs.Ytnmcfgoikffopaa
