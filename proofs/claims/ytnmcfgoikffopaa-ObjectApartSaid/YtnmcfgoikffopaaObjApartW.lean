/-
  The walk of the statement ObjectApart: for any two lists of objects it answers true, and nothing that was there has turned. No condition.
-/
import Derived.Test.YtnmcfgoikffopaaObjAlive
import Derived.Test.YtnmcfgoikffopaaObjG
namespace Go.Proofs.Ytnmcfgoikffopaa
open Go.RowKit

/-- An append whose outcome is known, where a guard asks for it. -/
theorem step_append_want {P : Program} {w w' : World} {ops : Array Oper} {rest : List Oper} {o : Oper} {a : Act} {Q : Exit → Act → World → Prop} {s x : Operand} {t : TypeId} {u v v' : Value} (hw : Region.wanted o (yielded ops a.tmps) = true)
    (ho : o.op = .call { callee := .builtin .append, args := #[s, x], argTypes := #[t, t] }) (hs : a.eval s = u) (hx : a.eval x = v)
    (hrun : (Builtin.append_ #[t, t] o.type #[u, v]).run P w = .ok v' w') (h : wpList P ops Q rest (a.put o.dst v') w') : wpList P ops Q (o :: rest) a w := by
  refine wpList_step fun K hK => ?_
  rw [if_pos hw]
  unfold Oper.wp execOp
  simp only [ho, resolve, invoke, builtin, Sem.run_bind, Sem.run_pure, Result.andThen_ok, List.map_toArray, List.map_cons, List.map_nil, hs, hx, hrun]
  exact hK _ _ h

theorem accro_append {w : World} {base c : Nat} {A : Option Addr} {l : List Ob} (h : AccRO w base A c l) {B m cc : Nat} {a : Option Addr} {l2 : List Ob} (hs : Row eo w B a m l2) (hbase : base ≤ w.heap.size) (hlen : l.length + m ≤ 1099511627776) (ty : TypeId) :
    ∃ A' c' w', (Builtin.append_ #[22, 22] ty #[.slice A l.length c, .slice a m cc]).run Try.prog w = .ok (.slice A' (l.length + m) c') w' ∧ AccRO w' base A' c' (l ++ l2) ∧ w.grownBy w' (blk A) ∧ (blk A' = blk A ∨ blk A' = some w.heap.size) :=
  accr_append eo_length eo_one (by omega) h hs Try.underlying22 Try.infoObj6 rfl hbase (by omega) (by omega)

/-- Both lists, one behind the other, in new memory. -/
theorem join_objs (w : World) (a a2 : Option Addr) (n c n2 c2 : Nat) (qs ps : List Ob) (h : Objs w w.heap.size a n qs) (h2 : Objs w w.heap.size a2 n2 ps) (hn : n + n2 ≤ 1099511627776) :
    ∃ A4 c4 w4 A5 c5 w5, (Builtin.append_ #[22, 22] 22 #[.slice none 0 0, .slice a n c]).run Try.prog w = .ok (.slice A4 n c4) w4 ∧
      (Builtin.append_ #[22, 22] 22 #[.slice A4 n c4, .slice a2 n2 c2]).run Try.prog w4 = .ok (.slice A5 (n + n2) c5) w5 ∧
      Objs w5 w5.heap.size A5 (n + n2) (qs ++ ps) ∧ Below w.heap.size w w5 := by
  have hl := h.len
  have hl2 := h2.len
  have a0 : AccRO w w.heap.size none 0 [] := AccR.nil _ _ _
  obtain ⟨A4, c4, w4, r4, a4, g4, _⟩ := accro_append a0 (cc := c) h.1 (Nat.le_refl _) (by simp; omega) 22
  have b4 : Below w.heap.size w w4 := belr_acc (Below.refl _ _) a0 g4
  simp only [List.length_nil, Nat.zero_add, List.nil_append] at r4 a4
  obtain ⟨A5, c5, w5, r5, a5, g5, _⟩ := accro_append a4 (cc := c2) ((h2.below b4).1) b4.size (by rw [hl]; exact hn) 22
  have b5 : Below w.heap.size w w5 := belr_acc b4 a4 g5
  rw [hl] at r5
  refine ⟨A4, c4, w4, A5, c5, w5, r4, r5, ⟨?_, ?_⟩, b5⟩
  · have hrow := AccR.row a5
    rwa [List.length_append, hl, hl2] at hrow
  · intro q hq
    rcases List.mem_append.1 hq with hq | hq
    · exact ((h.2.below b5).more b5.size) q hq
    · exact ((h2.2.below b5).more b5.size) q hq

theorem join_bytes (w : World) (a a2 : Option Addr) (n c n2 c2 : Nat) (x y : List UInt8) (h : Bts w w.heap.size a n x) (h2 : Bts w w.heap.size a2 n2 y) (hn : n + n2 ≤ 1099511627776) :
    ∃ A4 c4 w4 A5 c5 w5, (Builtin.append_ #[25, 25] 25 #[.slice none 0 0, .slice a n c]).run Try.prog w = .ok (.slice A4 n c4) w4 ∧
      (Builtin.append_ #[25, 25] 25 #[.slice A4 n c4, .slice a2 n2 c2]).run Try.prog w4 = .ok (.slice A5 (n + n2) c5) w5 ∧
      Bts w5 w5.heap.size A5 (n + n2) (x ++ y) ∧ Below w.heap.size w w5 := by
  have hl := h.1
  have hl2 := h2.1
  have a0 : Acc w w.heap.size none 0 [] := Acc.nil _ _
  obtain ⟨A4, c4, w4, r4, a4, g4, _⟩ := acc_append a0 (cc := c) h (Nat.le_refl _) (by simp; omega) 25
  have b4 : Below w.heap.size w w4 := bel_acc (Below.refl _ _) a0 g4
  simp only [List.length_nil, Nat.zero_add, List.nil_append] at r4 a4
  obtain ⟨A5, c5, w5, r5, a5, g5, _⟩ := acc_append a4 (cc := c2) (h2.below b4) b4.size (by rw [hl]; omega) 25
  have b5 : Below w.heap.size w w5 := bel_acc b4 a4 g5
  rw [hl] at r5
  refine ⟨A4, c4, w4, A5, c5, w5, r4, r5, ?_, b5⟩
  have hrow := a5.bts
  rwa [List.length_append, hl, hl2] at hrow

theorem cat_two (x y : List UInt8) : (⟨x.toArray⟩ : ByteArray) ++ ⟨y.toArray⟩ = ⟨(x ++ y).toArray⟩ := by
  apply ByteArray.ext
  rw [ByteArray.data_append]
  simp

set_option maxRecDepth 100000 in
set_option maxHeartbeats 4000000 in
theorem objApart_walk (a a2 : Option Addr) (n c n2 c2 : Nat) (w : World) (h : n ≤ maxLen ∧ ∃ qs, Objs w w.heap.size a n qs) (h2 : n2 ≤ maxLen ∧ ∃ qs, Objs w w.heap.size a2 n2 qs) :
    Calls Try.prog 6 #[.slice a n c, .slice a2 n2 c2] w fun e w' => e = .returned (.bool true) ∧ Below w.heap.size w w' := by
  obtain ⟨hm, qs, hq⟩ := h
  obtain ⟨hm2, ps, hp⟩ := h2
  have HQ := Lib.hid hq
  have HM := Lib.hid hm
  have HL := Lib.hid hq.len
  have HP := Lib.hid hp
  have HM2 := Lib.hid hm2
  have HL2 := Lib.hid hp.len
  clear hq hm hp hm2
  go_enter Try.func6, Try.ntmps6
  go_wp2_with fail
  ((with_reducible refine (alive6_calls _).mono ?_))
  rintro e w1 ⟨rfl, b1⟩
  have K1 := Lib.hid b1
  have Q1 := Lib.hid (HQ.out.up b1)
  have P1 := Lib.hid (HP.out.up b1)
  clear b1
  go_wp2_with fail
  ((with_reducible refine (fits6_calls a n c qs _ w1 Q1.out HM.out).mono ?_))
  rintro e w1' ⟨r, rfl, hr, rfl⟩
  cases r with
  | false =>
    go_wp2
    go_ret
    exact ⟨rfl, K1.out⟩
  | true =>
    have hn : n ≤ 100 := (hr rfl).1
    clear hr
    go_wp2_with fail
    ((with_reducible refine (fits6_calls a2 n2 c2 ps _ w1 P1.out HM2.out).mono ?_))
    rintro e w1' ⟨r, rfl, hr, rfl⟩
    cases r with
    | false =>
      go_wp2
      go_ret
      exact ⟨rfl, K1.out⟩
    | true =>
      have hn2 : n2 ≤ 100 := (hr rfl).1
      clear hr
      go_wp2_with fail
      ((with_reducible refine (theirs_calls a n c qs w1 Q1.out (by omega)).mono ?_))
      rintro e w2 ⟨A2, cc2, rfl, o2, b2⟩
      have K2 := Lib.hid (bel_more K1.out (Nat.le_refl _) b2)
      have Q2 := Lib.hid (Q1.out.up b2)
      have P2 := Lib.hid (P1.out.up b2)
      have O2 := Lib.hid o2
      clear o2 b2
      rw [HL.out]
      rw [HL.out] at O2
      go_wp2_with fail
      ((with_reducible refine (obencode_calls A2 n cc2 qs w2 O2.out HM.out).mono ?_))
      rintro e w3 ⟨A3, cc3, rfl, a3, b3⟩
      have K3 := Lib.hid (bel_more K2.out (Nat.le_refl _) b3)
      have Q3 := Lib.hid (Q2.out.up b3)
      have P3 := Lib.hid (P2.out.up b3)
      have X3 := Lib.hid a3.bts
      clear a3 b3 O2
      go_wp2_with fail
      ((with_reducible refine (theirs_calls a2 n2 c2 ps w3 P3.out (by omega)).mono ?_))
      rintro e w4 ⟨A4, cc4, rfl, o4, b4⟩
      have K4 := Lib.hid (bel_more K3.out (Nat.le_refl _) b4)
      have Q4 := Lib.hid (Q3.out.up b4)
      have P4 := Lib.hid (P3.out.up b4)
      have X4 := Lib.hid ((X3.out.below b4).more b4.size)
      have O4 := Lib.hid o4
      clear o4 b4
      rw [HL2.out]
      rw [HL2.out] at O4
      go_wp2_with fail
      ((with_reducible refine (obencode_calls A4 n2 cc4 ps w4 O4.out HM2.out).mono ?_))
      rintro e w5 ⟨A5, cc5, rfl, a5, b5⟩
      have K5 := Lib.hid (bel_more K4.out (Nat.le_refl _) b5)
      have Q5 := Lib.hid (Q4.out.up b5)
      have P5 := Lib.hid (P4.out.up b5)
      have X5 := Lib.hid ((X4.out.below b5).more b5.size)
      have Y5 := Lib.hid a5.bts
      clear a5 b5 O4 X3 X4
      obtain ⟨A6, c6, w6, A7, c7, w7, r6, r7, o7, b7⟩ := join_objs w5 a a2 n c n2 c2 qs ps Q5.out P5.out (by omega)
      have R6 := Lib.hid r6
      have R7 := Lib.hid r7
      have O7 := Lib.hid o7
      have K7 := Lib.hid (bel_more K5.out (Nat.le_refl _) b7)
      have Q7 := Lib.hid (Q5.out.up b7)
      have P7 := Lib.hid (P5.out.up b7)
      have X7 := Lib.hid ((X5.out.below b7).more b7.size)
      have Y7 := Lib.hid ((Y5.out.below b7).more b7.size)
      clear r6 r7 o7 b7
      have hxl := oEnc_le (vals qs)
      have hyl := oEnc_le (vals ps)
      have HVA := Lib.hid (vals_append qs ps)
      have HNO := Lib.hid (@apart_no (vals qs) (vals ps))
      have HBIG := Lib.hid (@apart_big (vals qs) (vals ps))
      have HOK := Lib.hid (@apart_ok (vals qs) (vals ps))
      have HLV := Lib.hid (vals_length qs)
      have HLV2 := Lib.hid (vals_length ps)
      generalize hX : oEnc (vals qs) = X at *
      generalize hY : oEnc (vals ps) = Y at *
      generalize hE : oErr (vals qs) = E at *
      generalize hF : oErr (vals ps) = F at *
      have HLJ := Lib.hid (show (qs ++ ps).length = n + n2 by rw [List.length_append, HL.out, HL2.out])
      go_wp2_with (at_builtin; first | refine step_append (o := ⟨some 37, _, _, _, _, _⟩) rfl rfl rfl rfl R6.out ?_ | refine step_append (o := ⟨some 39, _, _, _, _, _⟩) rfl rfl rfl rfl R7.out ?_)
      ((with_reducible refine (theirs_calls A7 (n + n2) c7 (qs ++ ps) w7 O7.out (by omega)).mono ?_))
      rintro e w8 ⟨A8, c8, rfl, o8, b8⟩
      have K8 := Lib.hid (bel_more K7.out (Nat.le_refl _) b8)
      have Q8 := Lib.hid (Q7.out.up b8)
      have P8 := Lib.hid (P7.out.up b8)
      have X8 := Lib.hid ((X7.out.below b8).more b8.size)
      have Y8 := Lib.hid ((Y7.out.below b8).more b8.size)
      have O8 := Lib.hid o8
      clear o8 b8 R6 R7 O7
      rw [HLJ.out]
      rw [HLJ.out] at O8
      have hjm : n + n2 ≤ maxLen := by unfold maxLen; omega
      have HJM := Lib.hid hjm
      clear hjm
      go_wp2_with fail
      ((with_reducible refine (obencode_calls A8 (n + n2) c8 (qs ++ ps) w8 O8.out HJM.out).mono ?_))
      rintro e w9 ⟨A9, c9, rfl, a9, b9⟩
      rw [HVA.out] at a9 ⊢
      have K9 := Lib.hid (bel_more K8.out (Nat.le_refl _) b9)
      have Q9 := Lib.hid (Q8.out.up b9)
      have P9 := Lib.hid (P8.out.up b9)
      have X9 := Lib.hid ((X8.out.below b9).more b9.size)
      have Y9 := Lib.hid ((Y8.out.below b9).more b9.size)
      have Z9 := Lib.hid a9.bts
      clear a9 b9 O8 X5 X7 X8 Y5 Y7 Y8
      by_cases he : E = 0
      · by_cases hf : F = 0
        · by_cases hg : oErr (vals qs ++ vals ps) = 0
          · have hj := HOK.out he hf hg
            have HBack := obj_back hg
            rw [hj] at Z9 HBack ⊢
            rw [hg]
            subst he
            subst hf
            have HB2 := Lib.hid HBack
            have hjl : (X ++ Y).length ≤ 4096 := by rw [← hj]; exact oEnc_le _
            rw [List.length_append] at hjl
            have HXY := Lib.hid (show (X ++ Y).length = X.length + Y.length from List.length_append)
            rw [HXY.out] at Z9 ⊢
            obtain ⟨A10, c10, w10, A11, c11, w11, r10, r11, o11, b11⟩ := join_bytes w9 A3 A5 X.length cc3 Y.length cc5 X Y X9.out Y9.out (by omega)
            have R10 := Lib.hid r10
            have R11 := Lib.hid r11
            have O11 := Lib.hid o11
            have K11 := Lib.hid (bel_more K9.out (Nat.le_refl _) b11)
            have Q11 := Lib.hid (Q9.out.up b11)
            have P11 := Lib.hid (P9.out.up b11)
            have X11 := Lib.hid ((X9.out.below b11).more b11.size)
            have Y11 := Lib.hid ((Y9.out.below b11).more b11.size)
            have Z11 := Lib.hid ((Z9.out.below b11).more b11.size)
            have hxm : X.length + Y.length ≤ maxLen := by unfold maxLen; omega
            have HXM := Lib.hid hxm
            clear HBack r10 r11 o11 b11 hxm hj hg hE hF hX hY HNO HBIG HOK
            go_wp2_with (at_builtin; first | refine step_append (o := ⟨some 70, _, _, _, _, _⟩) rfl rfl rfl rfl R10.out ?_ | refine step_append (o := ⟨some 72, _, _, _, _, _⟩) rfl rfl rfl rfl R11.out ?_)
            ((with_reducible refine (obdecode_calls A11 (X.length + Y.length) c11 (X ++ Y) w11 O11.out HXM.out).mono ?_))
            rintro e w12 ⟨A12, c12, rs, rfl, v12, a12, s12, b12⟩
            rw [HB2.out] at v12 ⊢
            simp only at v12 ⊢
            have K12 := Lib.hid (bel_more K11.out (Nat.le_refl _) b12)
            have Q12 := Lib.hid (Q11.out.up b12)
            have P12 := Lib.hid (P11.out.up b12)
            have X12 := X11.out.below b12
            have Y12 := Y11.out.below b12
            have Z12 := Z11.out.below b12
            have O12 := Lib.hid (acco_objs (a12.lower (Nat.zero_le _)) (s12.lower (Nat.zero_le _)))
            have hrl : rs.length = n + n2 := by rw [← vals_length, v12, List.length_append, vals_length, vals_length, HL.out, HL2.out]
            have HRL := Lib.hid hrl
            have V12 := Lib.hid (show vals rs = vals (qs ++ ps) by rw [v12, HVA.out])
            have t1 := X12.text (P := Try.prog) (c := cc3) 25 5 9 Try.underlying25 Try.underlying5 Try.underlying9
            have t2 := Y12.text (P := Try.prog) (c := cc5) 25 5 9 Try.underlying25 Try.underlying5 Try.underlying9
            have t3 := Z12.text (P := Try.prog) (c := c9) 25 5 9 Try.underlying25 Try.underlying5 Try.underlying9
            have hcat := cat_two X Y
            have hxy2 : ¬ 9223372036854775807 < X.toArray.size + Y.toArray.size := by simp; omega
            clear v12 a12 s12 b12 hrl X12 Y12 Z12 R10 R11 O11 X9 Y9 Z9 X11 Y11 Z11
            rw [HRL.out]
            rw [HRL.out] at O12
            generalize (X ++ Y).toArray = XYA at *
            generalize X.toArray = XA at *
            generalize Y.toArray = YA at *
            go_wp2_with fail
            ((with_reducible refine (ours_calls A12 (n + n2) c12 rs w12 O12.out (by omega)).mono ?_))
            rintro e w13 ⟨A13, c13, rfl, o13, b13⟩
            have K13 := Lib.hid (bel_more K12.out (Nat.le_refl _) b13)
            have Q13 := Lib.hid (Q12.out.up b13)
            have P13 := Lib.hid (P12.out.up b13)
            have O13 := Lib.hid o13
            rw [HRL.out]
            rw [HRL.out] at O13
            obtain ⟨A14, c14, w14, A15, c15, w15, r14, r15, o15, b15⟩ := join_objs w13 a a2 n c n2 c2 qs ps Q13.out P13.out (by omega)
            have R14 := Lib.hid r14
            have R15 := Lib.hid r15
            have O15 := Lib.hid o15
            have M15 := Lib.hid (O13.out.up b15)
            have K15 := Lib.hid (bel_more K13.out (Nat.le_refl _) b15)
            clear o13 b13 r14 r15 o15 b15 t1 t2 t3 hcat hxy2
            go_wp2_with (at_builtin; first | refine step_append_want (o := ⟨some 92, _, _, _, _, _⟩) rfl rfl rfl rfl R14.out ?_ | refine step_append_want (o := ⟨some 94, _, _, _, _, _⟩) rfl rfl rfl rfl R15.out ?_)
            ((with_reducible refine (same6_calls A13 A15 (n + n2) c13 c15 rs (qs ++ ps) _ _ w15 M15.out O15.out V12.out (by omega)).mono ?_))
            rintro e w16 ⟨rfl, md, rfl⟩
            go_wp2
            go_ret
            exact ⟨rfl, bel_drewN K15.out md⟩
          · have hbig := HBIG.out he hf hg
            rw [HLV.out, HLV2.out, HL.out, HL2.out] at hbig
            have hgb : (oErr (vals qs ++ vals ps) != 0) = true := by simpa using hg
            subst he
            subst hf
            generalize oErr (vals qs ++ vals ps) = G at *
            generalize (oEnc (vals qs ++ vals ps)).length = NZ at *
            clear hE hF hX hY HNO HBIG HOK hg Z9 X9 Y9
            generalize hNX : X.length = NX at *
            generalize hNY : Y.length = NY at *
            clear hNX hNY
            by_cases h32 : 32 < n + n2
            · have i1 : (32 : Int) < (n : Int) + (n2 : Int) := by omega
              clear hbig
              go_wp2
              go_ret
              exact ⟨rfl, K9.out⟩
            · have h40 : 4096 < NX + NY := by omega
              have i1 : ¬ (32 : Int) < (n : Int) + (n2 : Int) := by omega
              have i2 : (4096 : Int) < (NX : Int) + (NY : Int) := by omega
              clear hbig
              go_wp2
              go_ret
              exact ⟨rfl, K9.out⟩
        · have hg := HNO.out (.inr hf)
          have hgb : (oErr (vals qs ++ vals ps) != 0) = true := by simpa using hg
          have hfb : (F != 0) = true := by simpa using hf
          subst he
          generalize oErr (vals qs ++ vals ps) = G at *
          generalize (oEnc (vals qs ++ vals ps)).length = NZ at *
          clear hE hF hX hY HNO HBIG HOK hg hf Z9 X9 Y9
          go_wp2
          go_ret
          exact ⟨by first | rfl | (rw [hgb]; rfl), K9.out⟩
      · have hg := HNO.out (.inl he)
        have hgb : (oErr (vals qs ++ vals ps) != 0) = true := by simpa using hg
        have heb : (E != 0) = true := by simpa using he
        generalize oErr (vals qs ++ vals ps) = G at *
        generalize (oEnc (vals qs ++ vals ps)).length = NZ at *
        clear hE hF hX hY HNO HBIG HOK hg he Z9 X9 Y9
        go_wp2
        go_ret
        exact ⟨by first | rfl | (rw [hgb]; rfl), K9.out⟩
end Go.Proofs.Ytnmcfgoikffopaa
