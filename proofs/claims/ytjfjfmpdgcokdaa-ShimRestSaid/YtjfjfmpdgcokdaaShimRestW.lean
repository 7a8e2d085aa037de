/-
  The walk of the statement ShimRest: for any two stacks it answers true, and nothing that was there has turned. No condition.
-/
import Derived.Test.YtjfjfmpdgcokdaaShimAlive
import Derived.Test.YtjfjfmpdgcokdaaShimD
namespace Go.Proofs.Ytjfjfmpdgcokdaa
open Go.RowKit

set_option maxRecDepth 100000 in
theorem rest_no (a a2 : Option Addr) (n c n2 c2 : Nat) (w : World) (hn : 4096 < n ∨ 4096 < n2 ∨ n = 0 ∨ n2 = 0) (hm : n ≤ maxLen) (hm2 : n2 ≤ maxLen) :
    Calls Try.prog 8 #[.slice a n c, .slice a2 n2 c2] w fun e w' => e = .returned (.bool true) ∧ Below w.heap.size w w' := by
  unfold maxLen at hm hm2
  by_cases h1 : 4096 < n
  · clear hn
    go_enter Try.func8, Try.ntmps8
    go_wp2_with fail
    ((with_reducible refine (alive_calls _).mono ?_))
    rintro e w1 ⟨rfl, b1⟩
    go_wp2
    go_ret
    exact ⟨rfl, b1⟩
  · by_cases h2 : 4096 < n2
    · clear hn
      go_enter Try.func8, Try.ntmps8
      go_wp2_with fail
      ((with_reducible refine (alive_calls _).mono ?_))
      rintro e w1 ⟨rfl, b1⟩
      go_wp2
      go_ret
      exact ⟨rfl, b1⟩
    · by_cases h3 : n = 0
      · clear hn
        subst h3
        go_enter Try.func8, Try.ntmps8
        go_wp2_with fail
        ((with_reducible refine (alive_calls _).mono ?_))
        rintro e w1 ⟨rfl, b1⟩
        go_wp2
        go_ret
        exact ⟨rfl, b1⟩
      · obtain rfl : n2 = 0 := by omega
        have h3' : ((n : Int) == 0) = false := by rw [beq_eq_false_iff_ne]; omega
        clear hn
        go_enter Try.func8, Try.ntmps8
        go_wp2_with fail
        ((with_reducible refine (alive_calls _).mono ?_))
        rintro e w1 ⟨rfl, b1⟩
        go_wp2
        go_ret
        exact ⟨rfl, b1⟩

set_option maxRecDepth 100000 in
set_option maxHeartbeats 2000000 in
theorem rest_ok (a a2 : Option Addr) (n c n2 c2 : Nat) (es fs : List (Int × Int × Int)) (w : World) (h : Row ec w w.heap.size a n es) (hb : Row ec w w.heap.size a2 n2 fs) (hn : n ≤ 4096) (hn2 : n2 ≤ 4096) (h0 : 0 < n) (h02 : 0 < n2) :
    Calls Try.prog 8 #[.slice a n c, .slice a2 n2 c2] w fun e w' => e = .returned (.bool true) ∧ Below w.heap.size w w' := by
  have HR := Lib.hid h
  have HL := Lib.hid h.1
  have HF := Lib.hid hb
  have HLF := Lib.hid hb.1
  have q1 : ((n : Int) == 0) = false := by rw [beq_eq_false_iff_ne]; omega
  have q2 : ((n2 : Int) == 0) = false := by rw [beq_eq_false_iff_ne]; omega
  clear h hb
  go_enter Try.func8, Try.ntmps8
  go_wp2_with fail
  ((with_reducible refine (alive_calls _).mono ?_))
  rintro e w1 ⟨rfl, b1⟩
  have K1 := Lib.hid b1
  have HR1 := Lib.hid ((HR.out.below b1).more b1.size)
  have HF1 := Lib.hid ((HF.out.below b1).more b1.size)
  clear b1
  go_wp2_with fail
  ((with_reducible refine (encode_calls a n c es w1 HR1.out (by omega)).mono ?_))
  rintro e w2 ⟨A2, cc2, rfl, h2, b2⟩
  have K2 := Lib.hid (bel_more K1.out (Nat.le_refl _) b2)
  have HR2 := Lib.hid ((HR1.out.below b2).more b2.size)
  have HF2 := Lib.hid ((HF1.out.below b2).more b2.size)
  have H2 := Lib.hid h2
  clear h2 b2
  go_wp2_with fail
  ((with_reducible refine (encode_calls a2 n2 c2 fs w2 HF2.out (by omega)).mono ?_))
  rintro e w3 ⟨A3, cc3, rfl, h3, b3⟩
  have K3 := Lib.hid (bel_more K2.out (Nat.le_refl _) b3)
  have HR3 := Lib.hid ((HR2.out.below b3).more b3.size)
  have HF3 := Lib.hid ((HF2.out.below b3).more b3.size)
  have H23 := Lib.hid ((H2.out.below b3).more b3.size)
  have H3 := Lib.hid h3
  clear h3 b3 H2
  by_cases hE : encErr es = 0
  · by_cases hF : encErr fs = 0
    · obtain ⟨h8, hall⟩ := encErr_zero hE
      obtain ⟨f8, fall⟩ := encErr_zero hF
      have h8' : n ≤ 8 := by rw [← HL.out]; exact h8
      have f8' : n2 ≤ 8 := by rw [← HLF.out]; exact f8
      obtain ⟨x, hx⟩ : ∃ x, x = encR es := ⟨_, rfl⟩
      obtain ⟨y, hy⟩ : ∃ y, y = encR fs := ⟨_, rfl⟩
      have hxe : x = encL es := by rw [hx, encR_ok hE]
      have hye : y = encL fs := by rw [hy, encR_ok hF]
      have hxl : x.length = 4 * n := by rw [hxe, encL_length, HL.out]
      have hyl : y.length = 4 * n2 := by rw [hye, encL_length, HLF.out]
      rw [← hx] at H23 ⊢
      rw [← hy] at H3 ⊢
      rw [hE, hF, hxl, hyl]
      rw [hxl] at H23
      rw [hyl] at H3
      have hde := dec_enc es y (by rw [HL.out]; exact h0) h8 hall
      rw [← hxe, HL.out] at hde
      obtain ⟨d1, d2, d3⟩ := hde
      have hdf := dec_enc fs [] (by rw [HLF.out]; exact h02) f8 fall
      rw [← hye, HLF.out, List.append_nil] at hdf
      obtain ⟨f1, f2, f3⟩ := hdf
      have hrs : rst (x ++ y) = y := by unfold rst; rw [d1, if_pos rfl]; exact d3
      have hrs2 : rst y = [] := by unfold rst; rw [f1, if_pos rfl]; exact f3
      obtain ⟨A4, c4, w4, r4, a4, g4, e4⟩ := acc_append (Acc.nil w3 w3.heap.size) (cc := cc2) H23.out (Nat.le_refl _) (by simp; omega) 26
      have b4 : Below w3.heap.size w3 w4 := bel_acc (Below.refl _ _) (Acc.nil w3 w3.heap.size) g4
      have H4 := (H3.out.below b4).more b4.size
      obtain ⟨A5, c5, w5, r5, a5, g5, e5⟩ := acc_append a4 (cc := cc3) H4 b4.size (by simp; omega) 26
      have b5 : Below w3.heap.size w3 w5 := bel_acc b4 a4 g5
      rw [List.nil_append] at r5 a5
      simp only [List.length_nil, Nat.zero_add] at r4
      rw [hxl] at r5
      have s5 : Bts w5 w5.heap.size A5 (4 * n + 4 * n2) (x ++ y) := by
        have := a5.bts
        rwa [List.length_append, hxl, hyl] at this
      have R4 := Lib.hid r4
      have R5 := Lib.hid r5
      have S5 := Lib.hid s5
      have HR5 := Lib.hid ((HR3.out.below b5).more b5.size)
      have HF5 := Lib.hid ((HF3.out.below b5).more b5.size)
      have K5 := Lib.hid (bel_more K3.out (Nat.le_refl _) b5)
      have D1 := Lib.hid d1
      have D2 := Lib.hid d2
      have HRS := Lib.hid hrs
      have F1 := Lib.hid f1
      have F2 := Lib.hid f2
      have HRS2 := Lib.hid hrs2
      have HYL := Lib.hid hyl
      clear h8 hall f8 fall hx hxe hxl hy hye hyl d1 d2 d3 f1 f2 f3 hrs hrs2 r4 a4 g4 e4 b4 H4 r5 a5 g5 e5 b5 s5 hE hF H23 H3
      go_wp2_with (at_builtin; first | refine step_append (o := ⟨some 53, _, _, _, _, _⟩) rfl rfl rfl rfl R4.out ?_ | refine step_append (o := ⟨some 55, _, _, _, _, _⟩) rfl rfl rfl rfl R5.out ?_)
      ((with_reducible refine (decode_calls A5 (4 * n + 4 * n2) c5 (x ++ y) w5 S5.out (by omega)).mono ?_))
      rintro e w6 ⟨A6, c6, A7, c7, rfl, h6, h7, b6⟩
      rw [D1.out] at h6 ⊢
      simp only at h6 ⊢
      rw [D2.out] at h6
      rw [HRS.out] at h7 ⊢
      rw [HYL.out] at h7 ⊢
      have K6 := Lib.hid (bel_more K5.out (Nat.le_refl _) b6)
      have HR6 := Lib.hid ((HR5.out.below b6).more b6.size)
      have HF6 := Lib.hid ((HF5.out.below b6).more b6.size)
      have H6 := Lib.hid h6
      have H7 := Lib.hid h7
      clear h6 h7 b6 R4 R5 S5
      go_wp2_with fail
      ((with_reducible refine (decode_calls A7 (4 * n2) c7 y w6 H7.out (by omega)).mono ?_))
      rintro e w7 ⟨A8, c8, A9, c9, rfl, h8, h9, b7⟩
      rw [F1.out] at h8 ⊢
      simp only at h8 ⊢
      rw [F2.out] at h8
      rw [HRS2.out]
      simp only [List.length_nil]
      have K7 := Lib.hid (bel_more K6.out (Nat.le_refl _) b7)
      have HR7 := Lib.hid ((HR6.out.below b7).more b7.size)
      have HF7 := Lib.hid ((HF6.out.below b7).more b7.size)
      have H67 := Lib.hid ((H6.out.below b7).more b7.size)
      have H8 := Lib.hid h8
      clear h8 h9 b7
      go_wp2_with fail
      ((with_reducible refine (same_calls A6 a n c6 c es _ _ w7 H67.out HR7.out (by omega)).mono ?_))
      rintro e w8 ⟨rfl, m, rfl⟩
      have H8' := Lib.hid (H8.out.drewN m)
      have HF7' := Lib.hid (HF7.out.drewN m)
      go_wp2_with fail
      ((with_reducible refine (same_calls A8 a2 n2 c8 c2 fs _ _ _ H8'.out HF7'.out (by omega)).mono ?_))
      rintro e w9 ⟨rfl, m2, rfl⟩
      go_wp2
      go_ret
      exact ⟨rfl, bel_drewN K7.out _⟩
    · have hFb : (encErr fs != 0) = true := by simpa using hF
      rw [hE]
      generalize encErr fs = F at *
      generalize encR fs = Y at *
      clear hE hF
      go_wp2
      go_ret
      exact ⟨rfl, K3.out⟩
  · have hEb : (encErr es != 0) = true := by simpa using hE
    generalize encErr es = E at *
    clear hE
    go_wp2
    go_ret
    exact ⟨rfl, K3.out⟩

theorem rest_walk (a a2 : Option Addr) (n c n2 c2 : Nat) (w : World) (h : n ≤ c ∧ c ≤ maxLen ∧ ∃ es, Row ec w w.heap.size a n es) (hb : n2 ≤ c2 ∧ c2 ≤ maxLen ∧ ∃ es, Row ec w w.heap.size a2 n2 es) :
    Calls Try.prog 8 #[.slice a n c, .slice a2 n2 c2] w fun e w' => e = .returned (.bool true) ∧ Below w.heap.size w w' := by
  obtain ⟨h1, h2, es, hr⟩ := h
  obtain ⟨h3, h4, fs, hf⟩ := hb
  by_cases hn : (n ≤ 4096 ∧ n2 ≤ 4096) ∧ 0 < n ∧ 0 < n2
  · exact rest_ok a a2 n c n2 c2 es fs w hr hf hn.1.1 hn.1.2 hn.2.1 hn.2.2
  · exact rest_no a a2 n c n2 c2 w (by omega) (Nat.le_trans h1 h2) (Nat.le_trans h3 h4)
end Go.Proofs.Ytjfjfmpdgcokdaa
