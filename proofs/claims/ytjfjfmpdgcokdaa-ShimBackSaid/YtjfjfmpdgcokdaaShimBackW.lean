/-
  The walk of the statement ShimBack: for any entries and any bytes it answers true, and nothing that was there has turned. No condition.
-/
import Derived.Test.YtjfjfmpdgcokdaaShimAlive
import Derived.Test.YtjfjfmpdgcokdaaShimD
namespace Go.Proofs.Ytjfjfmpdgcokdaa
open Go.RowKit

theorem cat_bytes (b : List UInt8) (k : Nat) : (⟨(b.take k).toArray⟩ : ByteArray) ++ ⟨(b.drop k).toArray⟩ = ⟨b.toArray⟩ := by
  apply ByteArray.ext
  rw [ByteArray.data_append]
  simp

set_option maxRecDepth 100000 in
theorem back_long (a a2 : Option Addr) (n c n2 c2 : Nat) (w : World) (hn : 4096 < n ∨ 4096 < n2) (hm : n ≤ maxLen) (hm2 : n2 ≤ maxLen) :
    Calls Try.prog 6 #[.slice a n c, .slice a2 n2 c2] w fun e w' => e = .returned (.bool true) ∧ Below w.heap.size w w' := by
  unfold maxLen at hm hm2
  by_cases h1 : 4096 < n
  · clear hn
    go_enter Try.func6, Try.ntmps6
    go_wp2_with fail
    ((with_reducible refine (alive_calls _).mono ?_))
    rintro e w1 ⟨rfl, b1⟩
    go_wp2
    go_ret
    exact ⟨rfl, b1⟩
  · have h2 : 4096 < n2 := by omega
    clear hn
    go_enter Try.func6, Try.ntmps6
    go_wp2_with fail
    ((with_reducible refine (alive_calls _).mono ?_))
    rintro e w1 ⟨rfl, b1⟩
    go_wp2
    go_ret
    exact ⟨rfl, b1⟩

set_option maxRecDepth 100000 in
set_option maxHeartbeats 2000000 in
theorem back_ok (a a2 : Option Addr) (n c n2 c2 : Nat) (es : List (Int × Int × Int)) (b : List UInt8) (w : World) (h : Row ec w w.heap.size a n es) (hb : Bts w w.heap.size a2 n2 b) (hn : n ≤ 4096) (hn2 : n2 ≤ 4096) :
    Calls Try.prog 6 #[.slice a n c, .slice a2 n2 c2] w fun e w' => e = .returned (.bool true) ∧ Below w.heap.size w w' := by
  have HR := Lib.hid h
  have HL := Lib.hid h.1
  have HB := Lib.hid hb
  clear h hb
  go_enter Try.func6, Try.ntmps6
  go_wp2_with fail
  ((with_reducible refine (alive_calls _).mono ?_))
  rintro e w1 ⟨rfl, b1⟩
  have K1 := Lib.hid b1
  have HR1 := Lib.hid ((HR.out.below b1).more b1.size)
  have HB1 := Lib.hid ((HB.out.below b1).more b1.size)
  clear b1
  go_wp2_with fail
  ((with_reducible refine (encode_calls a n c es w1 HR1.out (by omega)).mono ?_))
  rintro e w2 ⟨A2, cc2, rfl, h2, b2⟩
  have K2 := Lib.hid (bel_more K1.out (Nat.le_refl _) b2)
  have HR2 := Lib.hid ((HR1.out.below b2).more b2.size)
  have HB2 := Lib.hid ((HB1.out.below b2).more b2.size)
  have H2 := Lib.hid h2
  clear h2 b2
  by_cases hE : encErr es = 0
  · obtain ⟨h8, hall⟩ := encErr_zero hE
    have h8' : n ≤ 8 := by rw [← HL.out]; exact h8
    by_cases h0 : 0 < n
    · obtain ⟨x, hx⟩ : ∃ x, x = encR es := ⟨_, rfl⟩
      have hxe : x = encL es := by rw [hx, encR_ok hE]
      have hxl : x.length = 4 * n := by rw [hxe, encL_length, HL.out]
      rw [← hx] at H2 ⊢
      rw [hE, hxl]
      rw [hxl] at H2
      have hde := dec_enc es b (by rw [HL.out]; exact h0) h8 hall
      rw [← hxe, HL.out] at hde
      obtain ⟨d1, d2, d3⟩ := hde
      have hrs : rst (x ++ b) = b := by unfold rst; rw [d1, if_pos rfl]; exact d3
      obtain ⟨A3, c3, w3, r3, a3, g3, e3⟩ := acc_append (Acc.nil w2 w2.heap.size) (cc := cc2) H2.out (Nat.le_refl _) (by simp; omega) 26
      have b3 : Below w2.heap.size w2 w3 := bel_acc (Below.refl _ _) (Acc.nil w2 w2.heap.size) g3
      have HB3 := Lib.hid ((HB2.out.below b3).more b3.size)
      have HR3 := Lib.hid ((HR2.out.below b3).more b3.size)
      obtain ⟨A4, c4, w4, r4, a4, g4, e4⟩ := acc_append a3 (cc := c2) HB3.out b3.size (by simp; omega) 26
      have b4 : Below w2.heap.size w2 w4 := bel_acc b3 a3 g4
      rw [List.nil_append] at r4 a4
      simp only [List.length_nil, Nat.zero_add] at r3
      rw [hxl] at r4
      have s4 : Bts w4 w4.heap.size A4 (4 * n + n2) (x ++ b) := by
        have := a4.bts
        rwa [List.length_append, hxl, HB2.out.1] at this
      have R3 := Lib.hid r3
      have R4 := Lib.hid r4
      have S4 := Lib.hid s4
      have HB4 := Lib.hid ((HB2.out.below b4).more b4.size)
      have HR4 := Lib.hid ((HR2.out.below b4).more b4.size)
      have K4 := Lib.hid (bel_more K2.out (Nat.le_refl _) b4)
      have D1 := Lib.hid d1
      have D2 := Lib.hid d2
      have HRS := Lib.hid hrs
      clear h8 hall hx hxe hxl d1 d2 d3 hrs r3 a3 g3 e3 b3 r4 a4 g4 e4 b4 s4 hE H2
      go_wp2_with (at_builtin; first | refine step_append (o := ⟨some 39, _, _, _, _, _⟩) rfl rfl rfl rfl R3.out ?_ | refine step_append (o := ⟨some 41, _, _, _, _, _⟩) rfl rfl rfl rfl R4.out ?_)
      ((with_reducible refine (decode_calls A4 (4 * n + n2) c4 (x ++ b) w4 S4.out (by omega)).mono ?_))
      rintro e w5 ⟨A5, c5, A9, c9, rfl, h5, h9, b5⟩
      rw [D1.out] at h5 ⊢
      simp only at h5 ⊢
      rw [D2.out] at h5
      rw [HRS.out] at h9 ⊢
      have hbl : b.length = n2 := HB2.out.1
      rw [hbl] at h9 ⊢
      have K5 := Lib.hid (bel_more K4.out (Nat.le_refl _) b5)
      have HB5 := Lib.hid ((HB4.out.below b5).more b5.size)
      have HR5 := Lib.hid ((HR4.out.below b5).more b5.size)
      have H5 := Lib.hid h5
      have H9 := Lib.hid h9
      clear h5 h9 b5 hbl R3 R4 S4
      go_wp2_with fail
      ((with_reducible refine (same_calls A5 a n c5 c es _ _ w5 H5.out HR5.out (by omega)).mono ?_))
      rintro e w6 ⟨rfl, m, rfl⟩
      have t1 := fun cc => (H9.out).text (P := Try.prog) (w := w5.drewN m) (c := cc) 26 5 9 Try.underlying26 Try.underlying5 Try.underlying9
      have t2 := fun cc => (HB5.out).text (P := Try.prog) (w := w5.drewN m) (c := cc) 26 5 9 Try.underlying26 Try.underlying5 Try.underlying9
      have K5' := Lib.hid (bel_drewN K5.out m)
      have HB5' := Lib.hid (show Bts (w5.drewN m) (w5.drewN m).heap.size a2 n2 b from HB5.out)
      go_wp2_with fail
      clear t1 t2 H5 H9
      ((with_reducible refine (decode_calls a2 n2 c2 b (w5.drewN m) HB5'.out (by omega)).mono ?_))
      rintro e w6 ⟨A6, c6, A7, c7, rfl, h6, h7, b6⟩
      have K6 := Lib.hid (bel_more K5'.out (Nat.le_refl _) b6)
      have HB6 := Lib.hid ((HB5'.out.below b6).more b6.size)
      have H6 := Lib.hid h6
      have H7 := Lib.hid h7
      clear h6 h7 b6
      by_cases hE2 : (dec b 8 0).2 = 0
      · obtain ⟨M, hM⟩ : ∃ M, M = (dec b 8 0).1 := ⟨_, rfl⟩
        have hdec : dec b 8 0 = (M, 0) := Prod.ext hM.symm hE2
        obtain ⟨m1, m2, m3, _⟩ := dec_ok b 8 0 M hdec
        have hed := enc_dec b M hdec
        have hrs : rst b = b.drop (4 * M) := by unfold rst; rw [hdec, if_pos rfl]
        have hee : encErr (stk b M) = 0 := encErr_ok (by rw [stk_length]; omega) hed.1
        have her : encR (stk b M) = b.take (4 * M) := by rw [encR_ok hee, hed.2]
        rw [hrs] at H7
        rw [hdec] at H6
        rw [hrs, hdec]
        have HEE := Lib.hid hee
        have HER := Lib.hid her
        have m1' : 1 ≤ M := m1
        have m2' : M ≤ 8 := by omega
        have hcat : (⟨(b.take (4 * M)).toArray⟩ : ByteArray) ++ ⟨(b.drop (4 * M)).toArray⟩ = ⟨b.toArray⟩ := cat_bytes b (4 * M)
        have hxy : (b.take (4 * M)).toArray.size + (b.drop (4 * M)).toArray.size ≤ 4096 := by
          have := HB6.out.1
          simp; omega
        clear hE2 hM hdec m1 m2 m3 hed hrs hee her
        generalize b.drop (4 * M) = Y at *
        generalize b.take (4 * M) = X at *
        generalize hNY : Y.length = NY at *
        clear hNY
        go_wp2_with fail
        ((with_reducible refine (encode_calls A6 M c6 (stk b M) w6 H6.out (by omega)).mono ?_))
        rintro e w8 ⟨A8, c8, rfl, h8, b8⟩
        rw [HER.out] at h8 ⊢
        generalize hNX : X.length = NX at *
        clear hNX
        rw [HEE.out]
        have K8 := Lib.hid (bel_more K6.out (Nat.le_refl _) b8)
        have t1 := h8.text (P := Try.prog) (c := c8) 26 5 9 Try.underlying26 Try.underlying5 Try.underlying9
        have t2 := (H7.out.below b8).text (P := Try.prog) (c := c7) 26 5 9 Try.underlying26 Try.underlying5 Try.underlying9
        have t3 := (HB6.out.below b8).text (P := Try.prog) (c := c2) 26 5 9 Try.underlying26 Try.underlying5 Try.underlying9
        have hxy2 : ¬ 9223372036854775807 < X.length + Y.length := by
          have : X.length + Y.length ≤ 4096 := by simpa using hxy
          omega
        clear h8 b8 HB6 H6 H7 hxy
        go_wp2
        go_ret
        exact ⟨rfl, K8.out⟩
      · have hEb : ((dec b 8 0).2 == 0) = false := by rw [beq_eq_false_iff_ne]; exact hE2
        generalize (dec b 8 0).1 = M at *
        generalize (dec b 8 0).2 = E2 at *
        clear hE2
        go_wp2
        go_ret
        exact ⟨rfl, K6.out⟩
    · have h0' : n = 0 := by omega
      subst h0'
      have hr : encR es = [] := by
        have : es = [] := List.eq_nil_of_length_eq_zero HL.out
        rw [encR_ok hE, this]; rfl
      rw [hr, hE]
      clear hr hE h8 hall
      go_wp2_with fail
      ((with_reducible refine (decode_calls a2 n2 c2 b w2 HB2.out (by omega)).mono ?_))
      rintro e w6 ⟨A6, c6, A7, c7, rfl, h6, h7, b6⟩
      have K6 := Lib.hid (bel_more K2.out (Nat.le_refl _) b6)
      have HB6 := Lib.hid ((HB2.out.below b6).more b6.size)
      have H6 := Lib.hid h6
      have H7 := Lib.hid h7
      clear h6 h7 b6
      by_cases hE2 : (dec b 8 0).2 = 0
      · obtain ⟨M, hM⟩ : ∃ M, M = (dec b 8 0).1 := ⟨_, rfl⟩
        have hdec : dec b 8 0 = (M, 0) := Prod.ext hM.symm hE2
        obtain ⟨m1, m2, m3, _⟩ := dec_ok b 8 0 M hdec
        have hed := enc_dec b M hdec
        have hrs : rst b = b.drop (4 * M) := by unfold rst; rw [hdec, if_pos rfl]
        have hee : encErr (stk b M) = 0 := encErr_ok (by rw [stk_length]; omega) hed.1
        have her : encR (stk b M) = b.take (4 * M) := by rw [encR_ok hee, hed.2]
        rw [hrs] at H7
        rw [hdec] at H6
        rw [hrs, hdec]
        have HEE := Lib.hid hee
        have HER := Lib.hid her
        have m1' : 1 ≤ M := m1
        have m2' : M ≤ 8 := by omega
        have hcat : (⟨(b.take (4 * M)).toArray⟩ : ByteArray) ++ ⟨(b.drop (4 * M)).toArray⟩ = ⟨b.toArray⟩ := cat_bytes b (4 * M)
        have hxy : (b.take (4 * M)).toArray.size + (b.drop (4 * M)).toArray.size ≤ 4096 := by
          have := HB6.out.1
          simp; omega
        clear hE2 hM hdec m1 m2 m3 hed hrs hee her
        generalize b.drop (4 * M) = Y at *
        generalize b.take (4 * M) = X at *
        generalize hNY : Y.length = NY at *
        clear hNY
        go_wp2_with fail
        ((with_reducible refine (encode_calls A6 M c6 (stk b M) w6 H6.out (by omega)).mono ?_))
        rintro e w8 ⟨A8, c8, rfl, h8, b8⟩
        rw [HER.out] at h8 ⊢
        generalize hNX : X.length = NX at *
        clear hNX
        rw [HEE.out]
        have K8 := Lib.hid (bel_more K6.out (Nat.le_refl _) b8)
        have t1 := h8.text (P := Try.prog) (c := c8) 26 5 9 Try.underlying26 Try.underlying5 Try.underlying9
        have t2 := (H7.out.below b8).text (P := Try.prog) (c := c7) 26 5 9 Try.underlying26 Try.underlying5 Try.underlying9
        have t3 := (HB6.out.below b8).text (P := Try.prog) (c := c2) 26 5 9 Try.underlying26 Try.underlying5 Try.underlying9
        have hxy2 : ¬ 9223372036854775807 < X.length + Y.length := by
          have : X.length + Y.length ≤ 4096 := by simpa using hxy
          omega
        clear h8 b8 HB6 H6 H7 hxy
        go_wp2
        go_ret
        exact ⟨rfl, K8.out⟩
      · have hEb : ((dec b 8 0).2 == 0) = false := by rw [beq_eq_false_iff_ne]; exact hE2
        generalize (dec b 8 0).1 = M at *
        generalize (dec b 8 0).2 = E2 at *
        clear hE2
        go_wp2
        go_ret
        exact ⟨rfl, K6.out⟩
  · have hr : encR es = [] := encR_no hE
    have hEb : (encErr es == 0) = false := by rw [beq_eq_false_iff_ne]; exact hE
    rw [hr]
    generalize encErr es = E at *
    clear hE hr
    go_wp2_with fail
    ((with_reducible refine (decode_calls a2 n2 c2 b w2 HB2.out (by omega)).mono ?_))
    rintro e w6 ⟨A6, c6, A7, c7, rfl, h6, h7, b6⟩
    have K6 := Lib.hid (bel_more K2.out (Nat.le_refl _) b6)
    have HB6 := Lib.hid ((HB2.out.below b6).more b6.size)
    have H6 := Lib.hid h6
    have H7 := Lib.hid h7
    clear h6 h7 b6
    by_cases hE2 : (dec b 8 0).2 = 0
    · obtain ⟨M, hM⟩ : ∃ M, M = (dec b 8 0).1 := ⟨_, rfl⟩
      have hdec : dec b 8 0 = (M, 0) := Prod.ext hM.symm hE2
      obtain ⟨m1, m2, m3, _⟩ := dec_ok b 8 0 M hdec
      have hed := enc_dec b M hdec
      have hrs : rst b = b.drop (4 * M) := by unfold rst; rw [hdec, if_pos rfl]
      have hee : encErr (stk b M) = 0 := encErr_ok (by rw [stk_length]; omega) hed.1
      have her : encR (stk b M) = b.take (4 * M) := by rw [encR_ok hee, hed.2]
      rw [hrs] at H7
      rw [hdec] at H6
      rw [hrs, hdec]
      have HEE := Lib.hid hee
      have HER := Lib.hid her
      have m1' : 1 ≤ M := m1
      have m2' : M ≤ 8 := by omega
      have hcat : (⟨(b.take (4 * M)).toArray⟩ : ByteArray) ++ ⟨(b.drop (4 * M)).toArray⟩ = ⟨b.toArray⟩ := cat_bytes b (4 * M)
      have hxy : (b.take (4 * M)).toArray.size + (b.drop (4 * M)).toArray.size ≤ 4096 := by
        have := HB6.out.1
        simp; omega
      clear hE2 hM hdec m1 m2 m3 hed hrs hee her
      generalize b.drop (4 * M) = Y at *
      generalize b.take (4 * M) = X at *
      generalize hNY : Y.length = NY at *
      clear hNY
      go_wp2_with fail
      ((with_reducible refine (encode_calls A6 M c6 (stk b M) w6 H6.out (by omega)).mono ?_))
      rintro e w8 ⟨A8, c8, rfl, h8, b8⟩
      rw [HER.out] at h8 ⊢
      generalize hNX : X.length = NX at *
      clear hNX
      rw [HEE.out]
      have K8 := Lib.hid (bel_more K6.out (Nat.le_refl _) b8)
      have t1 := h8.text (P := Try.prog) (c := c8) 26 5 9 Try.underlying26 Try.underlying5 Try.underlying9
      have t2 := (H7.out.below b8).text (P := Try.prog) (c := c7) 26 5 9 Try.underlying26 Try.underlying5 Try.underlying9
      have t3 := (HB6.out.below b8).text (P := Try.prog) (c := c2) 26 5 9 Try.underlying26 Try.underlying5 Try.underlying9
      have hxy2 : ¬ 9223372036854775807 < X.length + Y.length := by
        have : X.length + Y.length ≤ 4096 := by simpa using hxy
        omega
      clear h8 b8 HB6 H6 H7 hxy
      go_wp2
      go_ret
      exact ⟨rfl, K8.out⟩
    · have hEb : ((dec b 8 0).2 == 0) = false := by rw [beq_eq_false_iff_ne]; exact hE2
      generalize (dec b 8 0).1 = M at *
      generalize (dec b 8 0).2 = E2 at *
      clear hE2
      go_wp2
      go_ret
      exact ⟨rfl, K6.out⟩

theorem back_walk (a a2 : Option Addr) (n c n2 c2 : Nat) (w : World) (h : n ≤ c ∧ c ≤ maxLen ∧ ∃ es, Row ec w w.heap.size a n es) (hb : n2 ≤ maxLen ∧ ∃ l, Bts w w.heap.size a2 n2 l) :
    Calls Try.prog 6 #[.slice a n c, .slice a2 n2 c2] w fun e w' => e = .returned (.bool true) ∧ Below w.heap.size w w' := by
  obtain ⟨h1, h2, es, hr⟩ := h
  obtain ⟨hm, l, hl⟩ := hb
  by_cases hn : n ≤ 4096 ∧ n2 ≤ 4096
  · exact back_ok a a2 n c n2 c2 es l w hr hl hn.1 hn.2
  · exact back_long a a2 n c n2 c2 w (by omega) (Nat.le_trans h1 h2) hm
end Go.Proofs.Ytjfjfmpdgcokdaa
