/-
  The walk of the statement ObjectEncodes: for any objects it answers true, and nothing that was there has turned. No condition.
-/
import Derived.Test.YtnmcfgoikffopaaObjAlive
import Derived.Test.YtnmcfgoikffopaaObjE
import Derived.Test.YtnmcfgoikffopaaObjG
namespace Go.Proofs.Ytnmcfgoikffopaa
open Go.RowKit

set_option maxRecDepth 100000 in
set_option maxHeartbeats 2000000 in
theorem objEncodes_walk (a : Option Addr) (n c : Nat) (w : World) (h : n ≤ maxLen ∧ ∃ qs, Objs w w.heap.size a n qs) :
    Calls Try.prog 3 #[.slice a n c] w fun e w' => e = .returned (.bool true) ∧ Below w.heap.size w w' := by
  obtain ⟨hm, qs, hq⟩ := h
  have HQ := Lib.hid hq
  have HM := Lib.hid hm
  have HL := Lib.hid hq.len
  clear hq hm
  go_enter Try.func3, Try.ntmps3
  go_wp2_with fail
  ((with_reducible refine (alive6_calls _).mono ?_))
  rintro e w1 ⟨rfl, b1⟩
  have K1 := Lib.hid b1
  have Q1 := Lib.hid (HQ.out.up b1)
  clear b1
  go_wp2_with fail
  ((with_reducible refine (fits6_calls a n c qs _ w1 Q1.out HM.out).mono ?_))
  rintro e w1' ⟨r, rfl, hr, rfl⟩
  cases r with
  | false =>
    go_wp2
    go_ret
    exact ⟨rfl, K1.out⟩
  | true =>
    have hn : n ≤ 100 := (hr rfl).1
    clear hr
    go_wp2_with fail
    ((with_reducible refine (theirs_calls a n c qs w1 Q1.out (by omega)).mono ?_))
    rintro e w2 ⟨A2, c2, rfl, o2, b2⟩
    have K2 := Lib.hid (bel_more K1.out (Nat.le_refl _) b2)
    have Q2 := Lib.hid (Q1.out.up b2)
    have O2 := Lib.hid o2
    clear o2 b2
    rw [HL.out]
    rw [HL.out] at O2
    go_wp2_with fail
    ((with_reducible refine (obencode_calls A2 n c2 qs w2 O2.out HM.out).mono ?_))
    rintro e w3 ⟨A3, c3, rfl, a3, b3⟩
    have K3 := Lib.hid (bel_more K2.out (Nat.le_refl _) b3)
    have Q3 := Lib.hid (Q2.out.up b3)
    have X3 := Lib.hid a3.bts
    clear a3 b3 O2
    go_wp2_with fail
    ((with_reducible refine (theirs_calls a n c qs w3 Q3.out (by omega)).mono ?_))
    rintro e w4 ⟨A4, c4, rfl, o4, b4⟩
    have K4 := Lib.hid (bel_more K3.out (Nat.le_refl _) b4)
    have Q4 := Lib.hid (Q3.out.up b4)
    have X4 := Lib.hid ((X3.out.below b4).more b4.size)
    have O4 := Lib.hid o4
    clear o4 b4
    rw [HL.out]
    rw [HL.out] at O4
    go_wp2_with fail
    ((with_reducible refine (size_calls A4 n c4 qs w4 O4.out HM.out).mono ?_))
    rintro e w5 ⟨rfl, b5⟩
    have K5 := Lib.hid (bel_more K4.out (Nat.le_refl _) b5)
    have Q5 := Lib.hid (Q4.out.up b5)
    have X5 := Lib.hid ((X4.out.below b5).more b5.size)
    clear b5 O4
    go_wp2_with fail
    ((with_reducible refine (refencode6_calls a n c qs w5 Q5.out HM.out).mono ?_))
    rintro e w6 ⟨A6, c6, rfl, a6, b6⟩
    have K6 := Lib.hid (bel_more K5.out (Nat.le_refl _) b6)
    have X6 := (X5.out.below b6).more b6.size
    have Y6 := a6.bts
    have hle := oEnc_le (vals qs)
    generalize oEnc (vals qs) = X at *
    generalize oErr (vals qs) = E at *
    have t1 := X6.text (P := Try.prog) (c := c3) 25 5 9 Try.underlying25 Try.underlying5 Try.underlying9
    have t2 := Y6.text (P := Try.prog) (c := c6) 25 5 9 Try.underlying25 Try.underlying5 Try.underlying9
    clear X6 Y6 a6 b6 X3 X4 X5
    generalize hNX : X.length = NX at *
    clear hNX
    go_wp2
    go_ret
    exact ⟨rfl, K6.out⟩
end Go.Proofs.Ytnmcfgoikffopaa
