/-
  The walk of the statement SumJoins: for any two slices of bytes it answers true, and nothing that was there has turned. No condition.
-/
import Derived.Test.YteadmbfbkgbhpaaSumAddsW
namespace Go.Proofs.Yteadmbfbkgbhpaa
open Go.RowKit

theorem joins_long (a : Option Addr) (n c : Nat) (a2 : Option Addr) (n2 c2 : Nat) (w : World) (hn : 4096 < n ∨ 4096 < n2) (hm : n ≤ maxLen) (hm2 : n2 ≤ maxLen) :
    Calls Try.prog 6 #[.slice a n c, .slice a2 n2 c2] w fun e w' => e = .returned (.bool true) ∧ Below w.heap.size w w' := by
  unfold maxLen at hm hm2
  by_cases h1 : 4096 < n
  · clear hn
    go_enter Try.func6, Try.ntmps6
    go_wp2_with fail
    ((with_reducible refine (alive_calls w).mono ?_))
    rintro e w1 ⟨rfl, b1⟩
    go_wp2
    go_ret
    exact ⟨rfl, b1⟩
  · have h2 : 4096 < n2 := by omega
    clear hn
    go_enter Try.func6, Try.ntmps6
    go_wp2_with fail
    ((with_reducible refine (alive_calls w).mono ?_))
    rintro e w1 ⟨rfl, b1⟩
    go_wp2
    go_ret
    exact ⟨rfl, b1⟩

/-- What is asked of the sums of bytes that are joined. -/
theorem joins_eq (l1 l2 : List UInt8) (h : l1.length % 2 = 0) : ofL (l1 ++ l2) = 65535 - oadd (65535 - ofL l1) (65535 - ofL l2) := by
  rw [ofL_back, ofL_back, red_add]; unfold ofL; rw [tot_append l1 l2 h]

set_option maxHeartbeats 800000 in
theorem joins_ok (a : Option Addr) (n c : Nat) (a2 : Option Addr) (n2 c2 : Nat) (l l2 : List UInt8) (w : World) (h : Bts w w.heap.size a n l) (h2 : Bts w w.heap.size a2 n2 l2) (hn : n ≤ 4096) (hn2 : n2 ≤ 4096) (hc : n ≤ c) (hc2 : n2 ≤ c2) :
    Calls Try.prog 6 #[.slice a n c, .slice a2 n2 c2] w fun e w' => e = .returned (.bool true) ∧ Below w.heap.size w w' := by
  have HA := Lib.hid h
  have HB := Lib.hid h2
  have HN := Lib.hid h.1
  clear h h2
  go_enter Try.func6, Try.ntmps6
  go_wp2_with fail
  ((with_reducible refine (alive_calls w).mono ?_))
  rintro e w1 ⟨rfl, b1⟩
  have B1 := Lib.hid b1
  have HA1 := Lib.hid ((HA.out.below b1).more b1.size)
  have HB2 := Lib.hid ((HB.out.below b1).more b1.size)
  clear b1
  by_cases hodd : n % 2 = 1
  · have hm : ((n : Int) % 2 == 1) = true := by simp; omega
    obtain ⟨b, o, rfl, _, _⟩ := HA1.out.2 (by omega)
    obtain ⟨l1, hl1⟩ : ∃ l1, l1 = l.take (n - 1) := ⟨_, rfl⟩
    have HBA : Hid (Bts w1 w1.heap.size (some ⟨b, o, none⟩) (n - 1) l1) := Lib.hid (by rw [hl1]; exact HA1.out.front (n - 1) (by omega))
    have HEV := Lib.hid (show l1.length % 2 = 0 by rw [HBA.out.1]; omega)
    clear hl1
    have hr1 := acc_append (Acc.nil w1 w1.heap.size) (cc := c) HBA.out (Nat.le_refl _) (by simp; omega) 22
    obtain ⟨A2, d2, w2, r2, ac2, g2, _⟩ := hr1
    have bb2 := bel_acc (Below.refl w1.heap.size w1) (Acc.nil w1 w1.heap.size) g2
    simp only [List.nil_append, List.length_nil, Nat.zero_add] at r2 ac2
    obtain ⟨A3, d3, w3, r3, ac3, g3, _⟩ := acc_append ac2 (cc := c2) (HB2.out.below bb2) bb2.size (by rw [HBA.out.1]; omega) 22
    have bb3 := bel_acc bb2 ac2 g3
    rw [HBA.out.1] at r3
    have hd3 : (n - 1) + n2 ≤ d3 := by have := ac3.cap; rw [List.length_append, HBA.out.1, HB2.out.1] at this; exact this
    have T3 := ac3.bts
    rw [List.length_append, HBA.out.1, HB2.out.1] at T3
    have HT3 := Lib.hid T3
    have R2 := Lib.hid r2
    have R3 := Lib.hid r3
    have B3 := Lib.hid (bel_more B1.out (Nat.le_refl _) bb3)
    have HA3 := Lib.hid ((HBA.out.below bb3).more bb3.size)
    have HB3 := Lib.hid ((HB2.out.below bb3).more bb3.size)
    clear r2 ac2 g2 bb2 r3 ac3 g3 bb3 T3
    go_wp2_with (at_builtin; first | refine step_append (o := ⟨some 26, _, _, _, _, _⟩) rfl rfl rfl rfl R2.out ?_ | refine step_append (o := ⟨some 28, _, _, _, _, _⟩) rfl rfl rfl rfl R3.out ?_ | fail)
    ((with_reducible refine (of_calls A3 ((n - 1) + n2) d3 (l1 ++ l2) w3 HT3.out (by omega) hd3).mono ?_))
    rintro e w4 ⟨rfl, b4⟩
    have HA4 := Lib.hid ((HA3.out.below b4).more b4.size)
    have HB4 := Lib.hid ((HB3.out.below b4).more b4.size)
    have B4 := Lib.hid (bel_more B3.out (Nat.le_refl _) b4)
    clear b4
    obtain ⟨v0, hv0⟩ : ∃ v0, v0 = ofL (l1 ++ l2) := ⟨_, rfl⟩
    rw [← hv0]
    have HV0 := Lib.hid hv0
    clear hv0
    go_wp2_with fail
    ((with_reducible refine (of_calls (some ⟨b, o, none⟩) (n - 1) c l1 w4 HA4.out (by omega) (by omega)).mono ?_))
    rintro e w5 ⟨rfl, b5⟩
    have HB5 := Lib.hid ((HB4.out.below b5).more b5.size)
    have B5 := Lib.hid (bel_more B4.out (Nat.le_refl _) b5)
    clear b5
    have hv1 := ofL_le l1
    obtain ⟨v1, hv10⟩ : ∃ v1, v1 = ofL l1 := ⟨_, rfl⟩
    rw [← hv10] at hv1 ⊢
    have HV1 := Lib.hid hv10
    clear hv10
    go_wp2_with fail
    ((with_reducible refine (of_calls a2 n2 c2 l2 w5 HB5.out (by omega) hc2).mono ?_))
    rintro e w6 ⟨rfl, b6⟩
    have B6 := Lib.hid (bel_more B5.out (Nat.le_refl _) b6)
    clear b6
    have hv2 := ofL_le l2
    obtain ⟨v2, hv20⟩ : ∃ v2, v2 = ofL l2 := ⟨_, rfl⟩
    rw [← hv20] at hv2 ⊢
    have HV2 := Lib.hid hv20
    clear hv20
    go_wp2_with fail
    ((with_reducible refine (add_z (65535 - v1) (65535 - v2) _ _ w6 (by omega) (by omega) (by omega) (by omega)).mono ?_))
    rintro e w7 ⟨rfl, rfl⟩
    have hz := oadd_le (a := 65535 - v1) (b := 65535 - v2) (by omega) (by omega)
    have E := joins_eq l1 l2 HEV.out
    rw [← HV0.out, ← HV1.out, ← HV2.out] at E
    generalize oadd (65535 - v1) (65535 - v2) = z at *
    have hE : (v0 : Int) = 65535 - (z : Int) := by omega
    clear E
    go_wp2
    go_ret
    refine ⟨?_, B6.out⟩
    first | rfl | (simp [hE]; done)
  · have hm : ((n : Int) % 2 == 1) = false := by simp; omega
    obtain ⟨l1, hl1⟩ : ∃ l1, l1 = l := ⟨_, rfl⟩
    have HBA : Hid (Bts w1 w1.heap.size a n l1) := Lib.hid (by rw [hl1]; exact HA1.out)
    have HEV := Lib.hid (show l1.length % 2 = 0 by rw [HBA.out.1]; omega)
    clear hl1
    have hr1 := acc_append (Acc.nil w1 w1.heap.size) (cc := c) HBA.out (Nat.le_refl _) (by simp; omega) 22
    obtain ⟨A2, d2, w2, r2, ac2, g2, _⟩ := hr1
    have bb2 := bel_acc (Below.refl w1.heap.size w1) (Acc.nil w1 w1.heap.size) g2
    simp only [List.nil_append, List.length_nil, Nat.zero_add] at r2 ac2
    obtain ⟨A3, d3, w3, r3, ac3, g3, _⟩ := acc_append ac2 (cc := c2) (HB2.out.below bb2) bb2.size (by rw [HBA.out.1]; omega) 22
    have bb3 := bel_acc bb2 ac2 g3
    rw [HBA.out.1] at r3
    have hd3 : n + n2 ≤ d3 := by have := ac3.cap; rw [List.length_append, HBA.out.1, HB2.out.1] at this; exact this
    have T3 := ac3.bts
    rw [List.length_append, HBA.out.1, HB2.out.1] at T3
    have HT3 := Lib.hid T3
    have R2 := Lib.hid r2
    have R3 := Lib.hid r3
    have B3 := Lib.hid (bel_more B1.out (Nat.le_refl _) bb3)
    have HA3 := Lib.hid ((HBA.out.below bb3).more bb3.size)
    have HB3 := Lib.hid ((HB2.out.below bb3).more bb3.size)
    clear r2 ac2 g2 bb2 r3 ac3 g3 bb3 T3
    go_wp2_with (at_builtin; first | refine step_append (o := ⟨some 26, _, _, _, _, _⟩) rfl rfl rfl rfl R2.out ?_ | refine step_append (o := ⟨some 28, _, _, _, _, _⟩) rfl rfl rfl rfl R3.out ?_ | fail)
    ((with_reducible refine (of_calls A3 (n + n2) d3 (l1 ++ l2) w3 HT3.out (by omega) hd3).mono ?_))
    rintro e w4 ⟨rfl, b4⟩
    have HA4 := Lib.hid ((HA3.out.below b4).more b4.size)
    have HB4 := Lib.hid ((HB3.out.below b4).more b4.size)
    have B4 := Lib.hid (bel_more B3.out (Nat.le_refl _) b4)
    clear b4
    obtain ⟨v0, hv0⟩ : ∃ v0, v0 = ofL (l1 ++ l2) := ⟨_, rfl⟩
    rw [← hv0]
    have HV0 := Lib.hid hv0
    clear hv0
    go_wp2_with fail
    ((with_reducible refine (of_calls a n c l1 w4 HA4.out (by omega) (by omega)).mono ?_))
    rintro e w5 ⟨rfl, b5⟩
    have HB5 := Lib.hid ((HB4.out.below b5).more b5.size)
    have B5 := Lib.hid (bel_more B4.out (Nat.le_refl _) b5)
    clear b5
    have hv1 := ofL_le l1
    obtain ⟨v1, hv10⟩ : ∃ v1, v1 = ofL l1 := ⟨_, rfl⟩
    rw [← hv10] at hv1 ⊢
    have HV1 := Lib.hid hv10
    clear hv10
    go_wp2_with fail
    ((with_reducible refine (of_calls a2 n2 c2 l2 w5 HB5.out (by omega) hc2).mono ?_))
    rintro e w6 ⟨rfl, b6⟩
    have B6 := Lib.hid (bel_more B5.out (Nat.le_refl _) b6)
    clear b6
    have hv2 := ofL_le l2
    obtain ⟨v2, hv20⟩ : ∃ v2, v2 = ofL l2 := ⟨_, rfl⟩
    rw [← hv20] at hv2 ⊢
    have HV2 := Lib.hid hv20
    clear hv20
    go_wp2_with fail
    ((with_reducible refine (add_z (65535 - v1) (65535 - v2) _ _ w6 (by omega) (by omega) (by omega) (by omega)).mono ?_))
    rintro e w7 ⟨rfl, rfl⟩
    have hz := oadd_le (a := 65535 - v1) (b := 65535 - v2) (by omega) (by omega)
    have E := joins_eq l1 l2 HEV.out
    rw [← HV0.out, ← HV1.out, ← HV2.out] at E
    generalize oadd (65535 - v1) (65535 - v2) = z at *
    have hE : (v0 : Int) = 65535 - (z : Int) := by omega
    clear E
    go_wp2
    go_ret
    refine ⟨?_, B6.out⟩
    first | rfl | (simp [hE]; done)

theorem joins_walk (a : Option Addr) (n c : Nat) (a2 : Option Addr) (n2 c2 : Nat) (w : World) (h : n ≤ maxLen ∧ ∃ l, Bts w w.heap.size a n l) (h2 : n2 ≤ maxLen ∧ ∃ l, Bts w w.heap.size a2 n2 l) (hc : n ≤ c) (hc2 : n2 ≤ c2) :
    Calls Try.prog 6 #[.slice a n c, .slice a2 n2 c2] w fun e w' => e = .returned (.bool true) ∧ Below w.heap.size w w' := by
  obtain ⟨hm, l, hl⟩ := h
  obtain ⟨hm2, l2, hl2⟩ := h2
  by_cases hn : n ≤ 4096 ∧ n2 ≤ 4096
  · exact joins_ok a n c a2 n2 c2 l l2 w hl hl2 hn.1 hn.2 hc hc2
  · exact joins_long a n c a2 n2 c2 w (by omega) hm hm2
end Go.Proofs.Yteadmbfbkgbhpaa
