/-
  The walk of the statement ShimMoves: for any stack and any entry it answers true, and nothing that was there has turned. No condition.
-/
import Derived.Test.YtjfjfmpdgcokdaaShimG
import Derived.Deep.DeepCutAuto
namespace Go.Proofs.Ytjfjfmpdgcokdaa
open Go.RowKit

set_option maxRecDepth 100000 in
theorem moves_long (a : Option Addr) (n c : Nat) (x y z : Int) (w : World) (hn : 4096 < n) (hm : n ≤ maxLen) :
    Calls Try.prog 5 #[.slice a n c, .agg #[.int .i64 x, .int .i64 y, .int .i64 z]] w fun e w' => e = .returned (.bool true) ∧ Below w.heap.size w w' := by
  unfold maxLen at hm
  have k0 := Lib.hid (bel_new (Below.refl w.heap.size w) (.cells #[.int .i64 x, .int .i64 y, .int .i64 z] 24))
  go_enter Try.func5, Try.ntmps5
  go_wp2_with fail
  ((with_reducible refine (alive_calls _).mono ?_))
  rintro e w1 ⟨rfl, b1⟩
  have K1 := Lib.hid (bel_more k0.out (Nat.le_refl _) b1)
  go_wp2
  go_ret
  exact ⟨rfl, K1.out⟩

set_option maxRecDepth 100000 in
set_option maxHeartbeats 2000000 in
theorem moves_none (a : Option Addr) (n c : Nat) (es : List (Int × Int × Int)) (x y z : Int) (w : World) (h : Row ec w w.heap.size a n es) (hn : n ≤ 4096) (h0 : n = 0) :
    Calls Try.prog 5 #[.slice a n c, .agg #[.int .i64 x, .int .i64 y, .int .i64 z]] w fun e w' => e = .returned (.bool true) ∧ Below w.heap.size w w' := by
  subst h0
  have HR := Lib.hid h
  have HL := Lib.hid h.1
  have k0 := Lib.hid (bel_new (Below.refl w.heap.size w) (.cells #[.int .i64 x, .int .i64 y, .int .i64 z] 24))
  have AT0 := Lib.hid (At3.new w x y z)
  clear h
  go_enter Try.func5, Try.ntmps5
  go_wp2_with fail
  ((with_reducible refine (alive_calls _).mono ?_))
  rintro e w1 ⟨rfl, b1⟩
  have K1 := Lib.hid (bel_more k0.out (Nat.le_refl _) b1)
  have HR1 := Lib.hid ((HR.out.below K1.out).more K1.out.size)
  have at1 := AT0.out.below b1 (by simp)
  have hw1 : w.heap.size < w1.heap.size := by have := b1.size; rw [World.size_alloc] at this; omega
  have AT1 := Lib.hid at1
  obtain ⟨d0, d1, d2⟩ := at1
  clear b1
  go_wp2_with fail
  ((with_reducible refine (push_calls a 0 c es x y z w1 HR1.out (by omega)).mono ?_))
  rintro e w2 ⟨A2, c2, rfl, h2, q2, q2', b2⟩
  have K2 := Lib.hid (bel_more K1.out (Nat.le_refl _) b2)
  have HR2 := Lib.hid ((HR1.out.below b2).more b2.size)
  have at2 := AT1.out.below b2 hw1
  have hw2 : w.heap.size < w2.heap.size := Nat.lt_of_lt_of_le hw1 b2.size
  have AT2 := Lib.hid at2
  clear d0 d1 d2
  obtain ⟨d0, d1, d2⟩ := at2
  have H2 := Lib.hid h2
  have Q2 := Lib.hid q2
  clear h2 b2 q2 q2'
  go_wp2_with fail
  ((with_reducible refine (refpush_calls a 0 c es x y z w2 HR2.out (by omega)).mono ?_))
  rintro e w3 ⟨A3, c3, rfl, h3, _, _, b3⟩
  have K3 := Lib.hid (bel_more K2.out (Nat.le_refl _) b3)
  have HR3 := Lib.hid ((HR2.out.below b3).more b3.size)
  have AT3' := Lib.hid (AT2.out.below b3 hw2)
  have hw3 : w.heap.size < w3.heap.size := Nat.lt_of_lt_of_le hw2 b3.size
  have H23 := Lib.hid ((H2.out.below b3).more b3.size)
  have H3 := Lib.hid h3
  clear h3 b3 H2 d0 d1 d2 hw1 hw2
  have hpl : (pushL es (x, y, z)).length ≤ 4097 := by unfold pushL; split <;> simp [HL.out] <;> omega
  obtain ⟨L, hL⟩ : ∃ L, L = pushL es (x, y, z) := ⟨_, rfl⟩
  obtain ⟨F, hF⟩ : ∃ F, F = pushErr es (x, y, z) := ⟨_, rfl⟩
  obtain ⟨NL, hNL⟩ : ∃ NL, NL = L.length := ⟨_, rfl⟩
  rw [← hL, ← hNL] at H23 H3 Q2 hpl
  rw [← hL, ← hF, ← hNL]
  have HLL := Lib.hid hL
  have HFF := Lib.hid hF
  have HNL := Lib.hid hNL
  clear hL hF hNL
  go_wp2_with fail
  ((with_reducible refine (same_calls A2 A3 NL c2 c3 L _ _ w3 H23.out H3.out (by omega)).mono ?_))
  rintro e w4 ⟨rfl, m, rfl⟩
  have K4 := Lib.hid (bel_drewN K3.out m)
  have HR4 := Lib.hid (show Row ec (w3.drewN m) (w3.drewN m).heap.size a 0 es from HR3.out)
  have H24 := Lib.hid (show Row ec (w3.drewN m) (w3.drewN m).heap.size A2 NL L from H23.out)
  have AT4 := Lib.hid (show At3 (w3.drewN m) w.heap.size 0 x y z from AT3'.out)
  have hw4 : w.heap.size < (w3.drewN m).heap.size := hw3
  clear HR1 HR2 HR3 H23 H3 AT0 AT1 AT2 AT3' K1 K2 K3 hw3 k0
  generalize w3.drewN m = w4 at *
  go_wp2_with fail
  ((with_reducible refine (pop_none a c w4).mono ?_))
  rintro e w5 ⟨rfl, b5⟩
  have K5 := Lib.hid (bel_new (bel_more K4.out (Nat.le_refl _) b5) (.cells #[.int .i64 0, .int .i64 0, .int .i64 0] 24))
  clear b5
  go_wp2
  go_ret
  exact ⟨rfl, K5.out⟩

set_option maxRecDepth 100000 in
set_option maxHeartbeats 2000000 in
theorem moves_some (a : Option Addr) (n c : Nat) (es : List (Int × Int × Int)) (x y z : Int) (w : World) (h : Row ec w w.heap.size a n es) (hn : n ≤ 4096) (h0 : 0 < n) (hc : n ≤ c) (hc1 : c ≠ 1) :
    Calls Try.prog 5 #[.slice a n c, .agg #[.int .i64 x, .int .i64 y, .int .i64 z]] w fun e w' => e = .returned (.bool true) ∧ Below w.heap.size w w' := by
  have h0' : ((n : Int) == 0) = false := by rw [beq_eq_false_iff_ne]; omega
  have HR := Lib.hid h
  have HL := Lib.hid h.1
  have k0 := Lib.hid (bel_new (Below.refl w.heap.size w) (.cells #[.int .i64 x, .int .i64 y, .int .i64 z] 24))
  have AT0 := Lib.hid (At3.new w x y z)
  clear h
  go_enter Try.func5, Try.ntmps5
  go_wp2_with fail
  ((with_reducible refine (alive_calls _).mono ?_))
  rintro e w1 ⟨rfl, b1⟩
  have K1 := Lib.hid (bel_more k0.out (Nat.le_refl _) b1)
  have HR1 := Lib.hid ((HR.out.below K1.out).more K1.out.size)
  have at1 := AT0.out.below b1 (by simp)
  have hw1 : w.heap.size < w1.heap.size := by have := b1.size; rw [World.size_alloc] at this; omega
  have AT1 := Lib.hid at1
  obtain ⟨d0, d1, d2⟩ := at1
  clear b1
  go_wp2_with fail
  ((with_reducible refine (push_calls a n c es x y z w1 HR1.out (by omega)).mono ?_))
  rintro e w2 ⟨A2, c2, rfl, h2, q2, q2', b2⟩
  have K2 := Lib.hid (bel_more K1.out (Nat.le_refl _) b2)
  have HR2 := Lib.hid ((HR1.out.below b2).more b2.size)
  have at2 := AT1.out.below b2 hw1
  have hw2 : w.heap.size < w2.heap.size := Nat.lt_of_lt_of_le hw1 b2.size
  have AT2 := Lib.hid at2
  clear d0 d1 d2
  obtain ⟨d0, d1, d2⟩ := at2
  have H2 := Lib.hid h2
  have Q2 := Lib.hid q2
  clear h2 b2 q2 q2'
  go_wp2_with fail
  ((with_reducible refine (refpush_calls a n c es x y z w2 HR2.out (by omega)).mono ?_))
  rintro e w3 ⟨A3, c3, rfl, h3, _, _, b3⟩
  have K3 := Lib.hid (bel_more K2.out (Nat.le_refl _) b3)
  have HR3 := Lib.hid ((HR2.out.below b3).more b3.size)
  have AT3' := Lib.hid (AT2.out.below b3 hw2)
  have hw3 : w.heap.size < w3.heap.size := Nat.lt_of_lt_of_le hw2 b3.size
  have H23 := Lib.hid ((H2.out.below b3).more b3.size)
  have H3 := Lib.hid h3
  clear h3 b3 H2 d0 d1 d2 hw1 hw2
  have hpl : (pushL es (x, y, z)).length ≤ 4097 := by unfold pushL; split <;> simp [HL.out] <;> omega
  obtain ⟨L, hL⟩ : ∃ L, L = pushL es (x, y, z) := ⟨_, rfl⟩
  obtain ⟨F, hF⟩ : ∃ F, F = pushErr es (x, y, z) := ⟨_, rfl⟩
  obtain ⟨NL, hNL⟩ : ∃ NL, NL = L.length := ⟨_, rfl⟩
  rw [← hL, ← hNL] at H23 H3 Q2 hpl
  rw [← hL, ← hF, ← hNL]
  have HLL := Lib.hid hL
  have HFF := Lib.hid hF
  have HNL := Lib.hid hNL
  clear hL hF hNL
  go_wp2_with fail
  ((with_reducible refine (same_calls A2 A3 NL c2 c3 L _ _ w3 H23.out H3.out (by omega)).mono ?_))
  rintro e w4 ⟨rfl, m, rfl⟩
  have K4 := Lib.hid (bel_drewN K3.out m)
  have HR4 := Lib.hid (show Row ec (w3.drewN m) (w3.drewN m).heap.size a n es from HR3.out)
  have H24 := Lib.hid (show Row ec (w3.drewN m) (w3.drewN m).heap.size A2 NL L from H23.out)
  have AT4 := Lib.hid (show At3 (w3.drewN m) w.heap.size 0 x y z from AT3'.out)
  have hw4 : w.heap.size < (w3.drewN m).heap.size := hw3
  clear HR1 HR2 HR3 H23 H3 AT0 AT1 AT2 AT3' K1 K2 K3 hw3 k0
  generalize w3.drewN m = w4 at *
  go_wp2_with fail
  obtain ⟨b, o, rfl, hb, hc3⟩ := row_at3 HR4.out (by omega)
  have hel : 0 < es.length := by rw [HL.out]; omega
  have e0 := hc3 0 hel
  rw [Nat.zero_mul, Nat.add_zero] at e0
  obtain ⟨p, hp⟩ : ∃ p, p = es[0].1 := ⟨_, rfl⟩
  obtain ⟨q, hq⟩ : ∃ q, q = es[0].2.1 := ⟨_, rfl⟩
  obtain ⟨r, hr⟩ : ∃ r, r = es[0].2.2 := ⟨_, rfl⟩
  rw [← hp, ← hq, ← hr] at e0
  have E0 := Lib.hid e0
  clear hc3 hel hp hq hr e0
  ((with_reducible refine (pop_calls b o n c es p q r w4 HR4.out E0.out hb (by omega) (by omega) (by omega)).mono ?_))
  rintro e w5 ⟨A5, c5, rfl, h5a, h5l, b5⟩
  have h5 := h5a.row
  rw [h5l] at h5
  clear h5a h5l
  have b6 := bel_new b5 (.cells #[.int .i64 p, .int .i64 q, .int .i64 r] 24)
  have T6 := Lib.hid (At3.new w5 p q r)
  have K6 := Lib.hid (bel_more K4.out (Nat.le_refl _) b6)
  have E6 := Lib.hid (E0.out.below b6 hb)
  have HR6 := Lib.hid ((HR4.out.below b6).more b6.size)
  have H26 := Lib.hid ((H24.out.below b6).more b6.size)
  have AT6 := Lib.hid (AT4.out.below b6 hw4)
  have R6 := Lib.hid (show Row ec (w5.alloc (.cells #[.int .i64 p, .int .i64 q, .int .i64 r] 24)) (w5.alloc (.cells #[.int .i64 p, .int .i64 q, .int .i64 r] 24)).heap.size A5 (n - 1) (es.drop 1) from (h5.below (bel_new (Below.refl _ _) _)).more (by simp))
  have Q6 := Lib.hid (heap_alloc_new w5 (.cells #[.int .i64 p, .int .i64 q, .int .i64 r] 24))
  have hw5 : w.heap.size < w5.heap.size := Nat.lt_of_lt_of_le hw4 b5.size
  have hb6 : b < w5.heap.size := Nat.lt_of_lt_of_le hb b5.size
  clear h5 b5 b6 HR4 H24 AT4 K4
  go_wp2_with fail
  generalize (w5.alloc (.cells #[.int .i64 p, .int .i64 q, .int .i64 r] 24)) = w6 at *
  have hw6 : w5.heap.size < w6.heap.size := (Array.getElem?_eq_some_iff.1 Q6.out).1
  have RT := Lib.hid (show Row ec w6 w6.heap.size (some ⟨b, o + 3, none⟩) (n - 1) (es.drop 1) by
    have := HR6.out.rest ec_length 1 (by omega)
    rwa [Nat.one_mul] at this)
  have i1 : (1 : Int) ≤ (n : Int) := by omega
  have i2 : (n : Int) ≤ (c : Int) := by omega
  refine region_seq (fun W => At3 W w5.heap.size 0 p q r ∧ At3 W b o p q r)
    [(0, true), (1, true), (2, true), (3, true), (4, true), (5, true), (6, true), (7, true), (8, true), (9, true), (10, true), (11, true), (12, true), (13, false), (14, true), (15, true)]
    (by kernel_rfl) (by kernel_rfl) (by kernel_rfl) (by kernel_rfl) (fun _ _ _ _ _ h => h) ⟨T6.out, E6.out⟩ ?_
  repeat
    refine seq_pure (v := ?_) rfl (by rfl) (fun W hW => ?_) ?_
    rotate_left
    · obtain ⟨⟨d0, d1, d2⟩, d3, d4, d5⟩ := hW
      go_simp
      try with_reducible rfl
    simp only [Act.put, List.setIfInBounds_toArray, List.set_cons_zero, List.set_cons_succ]
  refine seq_make rfl (by rfl) (fun K hK => ?_)
  go_simp
  ((with_reducible refine (same_calls A5 (some ⟨b, o + 3, none⟩) (n - 1) c5 (c - 1) (es.drop 1) _ _ _ R6.out.drew RT.out.drew (by omega)).mono ?_))
  rintro e w7 ⟨rfl, m7, rfl⟩
  go_simp
  refine hK _ _ (fun W => At3 W w5.heap.size 0 p q r ∧ At3 W b o p q r) (fun W h => h) ⟨T6.out, E6.out⟩ ?_
  clear hK K
  repeat
    refine seq_pure (v := ?_) rfl (by rfl) (fun W hW => ?_) ?_
    rotate_left
    · clear hW
      go_simp
      try with_reducible rfl
    simp only [Act.put, List.setIfInBounds_toArray, List.set_cons_zero, List.set_cons_succ]
  refine seq_done ?_
  have K7 := Lib.hid (show Below w.heap.size w (w6.drewN (1 + m7)) from ⟨K6.out.os, K6.out.tape, K6.out.output, K6.out.size, K6.out.block⟩)
  have HR7 := Lib.hid (show Row ec (w6.drewN (1 + m7)) (w6.drewN (1 + m7)).heap.size (some ⟨b, o, none⟩) n es from HR6.out)
  have H27 := Lib.hid (show Row ec (w6.drewN (1 + m7)) (w6.drewN (1 + m7)).heap.size A2 NL L from H26.out)
  have AT7 := Lib.hid (show At3 (w6.drewN (1 + m7)) w.heap.size 0 x y z from AT6.out)
  have Q7 := Lib.hid (show (w6.drewN (1 + m7)).heap[w5.heap.size]? = some (.cells #[.int .i64 p, .int .i64 q, .int .i64 r] 24 (0, 0)) from Q6.out)
  clear T6 E6 HR6 H26 AT6 R6 Q6 RT K6 E0
  have hw7 : w5.heap.size < (w6.drewN (1 + m7)).heap.size := hw6
  generalize w6.drewN (1 + m7) = w7 at *
  by_cases hF0 : F = 0
  · subst hF0
    have hL : L = (x, y, z) :: es := by rw [HLL.out]; unfold pushL; rw [if_pos HFF.out.symm]
    subst hL
    obtain rfl : NL = n + 1 := by rw [HNL.out, List.length_cons, HL.out]
    obtain ⟨b8, o8, rfl, hb8, hc8⟩ := row_at3 H27.out (by omega)
    have e8 := hc8 0 (by simp)
    simp only [Nat.zero_mul, Nat.add_zero, List.getElem_cons_zero] at e8
    have E8 := Lib.hid e8
    clear hc8 e8
    go_wp2_with fail
    ((with_reducible refine (pop_calls b8 o8 (n + 1) c2 _ x y z w7 H27.out E8.out hb8 (by omega) (by omega) Q2.out).mono ?_))
    rintro e w8 ⟨A8, c8, rfl, h8, _, b8'⟩
    rw [Nat.add_sub_cancel]
    simp only [List.drop_succ_cons, List.drop_zero] at h8
    have q8 := (b8'.block _ hw7).trans Q7.out
    have K8 := Lib.hid (bel_more K7.out (Nat.le_refl _) b8')
    have AT8 := Lib.hid (AT7.out.below b8' (by omega))
    have H8 := Lib.hid h8
    have g0 : w8.cell? ⟨w5.heap.size, 0, none⟩ = some (.int .i64 p) := cell_of_row _ _ _ _ _ _ q8
    have g1 : w8.cell? ⟨w5.heap.size, 1, none⟩ = some (.int .i64 q) := cell_of_row _ _ _ _ _ _ q8
    have g2 : w8.cell? ⟨w5.heap.size, 2, none⟩ = some (.int .i64 r) := cell_of_row _ _ _ _ _ _ q8
    have f0 : w8.frozen? ⟨w5.heap.size, 0, none⟩ = false := by simp [World.frozen?, q8]
    have f1 : w8.frozen? ⟨w5.heap.size, 1, none⟩ = false := by simp [World.frozen?, q8]
    have f2 : w8.frozen? ⟨w5.heap.size, 2, none⟩ = false := by simp [World.frozen?, q8]
    have Q8 := Lib.hid q8
    clear h8 b8' q8
    go_upto_region 17 with fail
    have hle : w.heap.size ≤ w5.heap.size := Nat.le_of_lt hw5
    have K9 := Lib.hid (((K8.out.setCell (p := ⟨w5.heap.size, 0, none⟩) hle (.int .i64 x)).setCell (p := ⟨w5.heap.size, 1, none⟩) hle (.int .i64 y)).setCell (p := ⟨w5.heap.size, 2, none⟩) hle (.int .i64 z))
    have b9 := ((((Below.refl w5.heap.size w8).setCell (p := ⟨w5.heap.size, 0, none⟩) (Nat.le_refl _) (.int .i64 x)).setCell (p := ⟨w5.heap.size, 1, none⟩) (Nat.le_refl _) (.int .i64 y)).setCell (p := ⟨w5.heap.size, 2, none⟩) (Nat.le_refl _) (.int .i64 z))
    have AT9 := Lib.hid (AT8.out.below b9 hw5)
    have H9 := Lib.hid (show AccE (((w8.setCell ⟨w5.heap.size, 0, none⟩ (.int .i64 x)).setCell ⟨w5.heap.size, 1, none⟩ (.int .i64 y)).setCell ⟨w5.heap.size, 2, none⟩ (.int .i64 z)) w7.heap.size A8 c8 es from accr_setBelow (accr_setBelow (accr_setBelow H8.out hw7 _) hw7 _) hw7 _)
    have Q9 := Lib.hid (set3 Q8.out (.int .i64 x) (.int .i64 y) (.int .i64 z))
    clear g0 g1 g2 f0 f1 f2 b9 K8 AT8 H8 Q8
    generalize ((w8.setCell ⟨w5.heap.size, 0, none⟩ (.int .i64 x)).setCell ⟨w5.heap.size, 1, none⟩ (.int .i64 y)).setCell ⟨w5.heap.size, 2, none⟩ (.int .i64 z) = w9 at *
    have g0 : w9.cell? ⟨w5.heap.size, 0, none⟩ = some (.int .i64 x) := cell_of_row _ _ _ _ _ _ Q9.out
    have g1 : w9.cell? ⟨w5.heap.size, 1, none⟩ = some (.int .i64 y) := cell_of_row _ _ _ _ _ _ Q9.out
    have g2 : w9.cell? ⟨w5.heap.size, 2, none⟩ = some (.int .i64 z) := cell_of_row _ _ _ _ _ _ Q9.out
    obtain ⟨g3, g4, g5⟩ := AT9.out
    have HR9 := Lib.hid (HR.out.below K9.out)
    have h9 := H9.out.row
    rw [HL.out] at h9
    have H9' := Lib.hid h9
    clear h9
    go_wp2_with fail
    ((with_reducible refine (same_calls A8 (some ⟨b, o, none⟩) n c8 c es _ _ w9 H9'.out HR9.out (by omega)).mono ?_))
    rintro e w10 ⟨rfl, m10, rfl⟩
    go_wp2
    go_ret
    exact ⟨rfl, bel_drewN K9.out m10⟩
  · have hFb : (F != 0) = true := by simpa using hF0
    clear hF0
    go_wp2
    go_ret
    exact ⟨rfl, K7.out⟩

set_option maxRecDepth 100000 in
set_option maxHeartbeats 2000000 in
theorem moves_one (a : Option Addr) (n c : Nat) (es : List (Int × Int × Int)) (x y z : Int) (w : World) (h : Row ec w w.heap.size a n es) (hn : n ≤ 4096) (h0 : n = 1) (hc1 : c = 1) :
    Calls Try.prog 5 #[.slice a n c, .agg #[.int .i64 x, .int .i64 y, .int .i64 z]] w fun e w' => e = .returned (.bool true) ∧ Below w.heap.size w w' := by
  subst h0
  subst hc1
  have HR := Lib.hid h
  have HL := Lib.hid h.1
  have k0 := Lib.hid (bel_new (Below.refl w.heap.size w) (.cells #[.int .i64 x, .int .i64 y, .int .i64 z] 24))
  have AT0 := Lib.hid (At3.new w x y z)
  clear h
  go_enter Try.func5, Try.ntmps5
  go_wp2_with fail
  ((with_reducible refine (alive_calls _).mono ?_))
  rintro e w1 ⟨rfl, b1⟩
  have K1 := Lib.hid (bel_more k0.out (Nat.le_refl _) b1)
  have HR1 := Lib.hid ((HR.out.below K1.out).more K1.out.size)
  have at1 := AT0.out.below b1 (by simp)
  have hw1 : w.heap.size < w1.heap.size := by have := b1.size; rw [World.size_alloc] at this; omega
  have AT1 := Lib.hid at1
  obtain ⟨d0, d1, d2⟩ := at1
  clear b1
  go_wp2_with fail
  ((with_reducible refine (push_calls a 1 1 es x y z w1 HR1.out (by omega)).mono ?_))
  rintro e w2 ⟨A2, c2, rfl, h2, q2, q2', b2⟩
  have K2 := Lib.hid (bel_more K1.out (Nat.le_refl _) b2)
  have HR2 := Lib.hid ((HR1.out.below b2).more b2.size)
  have at2 := AT1.out.below b2 hw1
  have hw2 : w.heap.size < w2.heap.size := Nat.lt_of_lt_of_le hw1 b2.size
  have AT2 := Lib.hid at2
  clear d0 d1 d2
  obtain ⟨d0, d1, d2⟩ := at2
  have H2 := Lib.hid h2
  have Q2 := Lib.hid q2
  clear h2 b2 q2 q2'
  go_wp2_with fail
  ((with_reducible refine (refpush_calls a 1 1 es x y z w2 HR2.out (by omega)).mono ?_))
  rintro e w3 ⟨A3, c3, rfl, h3, _, _, b3⟩
  have K3 := Lib.hid (bel_more K2.out (Nat.le_refl _) b3)
  have HR3 := Lib.hid ((HR2.out.below b3).more b3.size)
  have AT3' := Lib.hid (AT2.out.below b3 hw2)
  have hw3 : w.heap.size < w3.heap.size := Nat.lt_of_lt_of_le hw2 b3.size
  have H23 := Lib.hid ((H2.out.below b3).more b3.size)
  have H3 := Lib.hid h3
  clear h3 b3 H2 d0 d1 d2 hw1 hw2
  have hpl : (pushL es (x, y, z)).length ≤ 4097 := by unfold pushL; split <;> simp [HL.out] <;> omega
  obtain ⟨L, hL⟩ : ∃ L, L = pushL es (x, y, z) := ⟨_, rfl⟩
  obtain ⟨F, hF⟩ : ∃ F, F = pushErr es (x, y, z) := ⟨_, rfl⟩
  obtain ⟨NL, hNL⟩ : ∃ NL, NL = L.length := ⟨_, rfl⟩
  rw [← hL, ← hNL] at H23 H3 Q2 hpl
  rw [← hL, ← hF, ← hNL]
  have HLL := Lib.hid hL
  have HFF := Lib.hid hF
  have HNL := Lib.hid hNL
  clear hL hF hNL
  go_wp2_with fail
  ((with_reducible refine (same_calls A2 A3 NL c2 c3 L _ _ w3 H23.out H3.out (by omega)).mono ?_))
  rintro e w4 ⟨rfl, m, rfl⟩
  have K4 := Lib.hid (bel_drewN K3.out m)
  have HR4 := Lib.hid (show Row ec (w3.drewN m) (w3.drewN m).heap.size a 1 es from HR3.out)
  have H24 := Lib.hid (show Row ec (w3.drewN m) (w3.drewN m).heap.size A2 NL L from H23.out)
  have AT4 := Lib.hid (show At3 (w3.drewN m) w.heap.size 0 x y z from AT3'.out)
  have hw4 : w.heap.size < (w3.drewN m).heap.size := hw3
  clear HR1 HR2 HR3 H23 H3 AT0 AT1 AT2 AT3' K1 K2 K3 hw3 k0
  generalize w3.drewN m = w4 at *
  go_wp2_with fail
  obtain ⟨b, o, rfl, hb, hc3⟩ := row_at3 HR4.out (by omega)
  have hel : 0 < es.length := by rw [HL.out]; omega
  have e0 := hc3 0 hel
  rw [Nat.zero_mul, Nat.add_zero] at e0
  obtain ⟨p, hp⟩ : ∃ p, p = es[0].1 := ⟨_, rfl⟩
  obtain ⟨q, hq⟩ : ∃ q, q = es[0].2.1 := ⟨_, rfl⟩
  obtain ⟨r, hr⟩ : ∃ r, r = es[0].2.2 := ⟨_, rfl⟩
  rw [← hp, ← hq, ← hr] at e0
  have E0 := Lib.hid e0
  clear hc3 hel hp hq hr e0
  ((with_reducible refine (pop_calls b o 1 1 es p q r w4 HR4.out E0.out hb (by omega) (by omega) (by omega)).mono ?_))
  rintro e w5 ⟨A5, c5, rfl, h5a, h5l, b5⟩
  have h5 := h5a.row
  rw [h5l] at h5
  clear h5a h5l
  have b6 := bel_new b5 (.cells #[.int .i64 p, .int .i64 q, .int .i64 r] 24)
  have T6 := Lib.hid (At3.new w5 p q r)
  have K6 := Lib.hid (bel_more K4.out (Nat.le_refl _) b6)
  have E6 := Lib.hid (E0.out.below b6 hb)
  have HR6 := Lib.hid ((HR4.out.below b6).more b6.size)
  have H26 := Lib.hid ((H24.out.below b6).more b6.size)
  have AT6 := Lib.hid (AT4.out.below b6 hw4)
  have R6 := Lib.hid (show Row ec (w5.alloc (.cells #[.int .i64 p, .int .i64 q, .int .i64 r] 24)) (w5.alloc (.cells #[.int .i64 p, .int .i64 q, .int .i64 r] 24)).heap.size A5 (1 - 1) (es.drop 1) from (h5.below (bel_new (Below.refl _ _) _)).more (by simp))
  have Q6 := Lib.hid (heap_alloc_new w5 (.cells #[.int .i64 p, .int .i64 q, .int .i64 r] 24))
  have hw5 : w.heap.size < w5.heap.size := Nat.lt_of_lt_of_le hw4 b5.size
  have hb6 : b < w5.heap.size := Nat.lt_of_lt_of_le hb b5.size
  clear h5 b5 b6 HR4 H24 AT4 K4
  go_wp2_with fail
  generalize (w5.alloc (.cells #[.int .i64 p, .int .i64 q, .int .i64 r] 24)) = w6 at *
  have hw6 : w5.heap.size < w6.heap.size := (Array.getElem?_eq_some_iff.1 Q6.out).1
  have RT := Lib.hid (show Row ec w6 w6.heap.size (some ⟨b, o, none⟩) 0 (es.drop 1) by
    have hd : es.drop 1 = [] := List.eq_nil_of_length_eq_zero (by simp [HL.out])
    rw [hd]; exact Row.nil)
  refine region_seq (fun W => At3 W w5.heap.size 0 p q r ∧ At3 W b o p q r)
    [(0, true), (1, true), (2, true), (3, true), (4, true), (5, true), (6, true), (7, true), (8, true), (9, true), (10, true), (11, true), (12, true), (13, false), (14, true), (15, true)]
    (by kernel_rfl) (by kernel_rfl) (by kernel_rfl) (by kernel_rfl) (fun _ _ _ _ _ h => h) ⟨T6.out, E6.out⟩ ?_
  repeat
    refine seq_pure (v := ?_) rfl (by rfl) (fun W hW => ?_) ?_
    rotate_left
    · obtain ⟨⟨d0, d1, d2⟩, d3, d4, d5⟩ := hW
      go_simp
      try with_reducible rfl
    simp only [Act.put, List.setIfInBounds_toArray, List.set_cons_zero, List.set_cons_succ]
  refine seq_make rfl (by rfl) (fun K hK => ?_)
  go_simp
  ((with_reducible refine (same_calls A5 (some ⟨b, o, none⟩) 0 c5 0 (es.drop 1) _ _ _ R6.out.drew RT.out.drew (by omega)).mono ?_))
  rintro e w7 ⟨rfl, m7, rfl⟩
  go_simp
  refine hK _ _ (fun W => At3 W w5.heap.size 0 p q r ∧ At3 W b o p q r) (fun W h => h) ⟨T6.out, E6.out⟩ ?_
  clear hK K
  repeat
    refine seq_pure (v := ?_) rfl (by rfl) (fun W hW => ?_) ?_
    rotate_left
    · clear hW
      go_simp
      try with_reducible rfl
    simp only [Act.put, List.setIfInBounds_toArray, List.set_cons_zero, List.set_cons_succ]
  refine seq_done ?_
  have K7 := Lib.hid (show Below w.heap.size w (w6.drewN (1 + m7)) from ⟨K6.out.os, K6.out.tape, K6.out.output, K6.out.size, K6.out.block⟩)
  have HR7 := Lib.hid (show Row ec (w6.drewN (1 + m7)) (w6.drewN (1 + m7)).heap.size (some ⟨b, o, none⟩) 1 es from HR6.out)
  have H27 := Lib.hid (show Row ec (w6.drewN (1 + m7)) (w6.drewN (1 + m7)).heap.size A2 NL L from H26.out)
  have AT7 := Lib.hid (show At3 (w6.drewN (1 + m7)) w.heap.size 0 x y z from AT6.out)
  have Q7 := Lib.hid (show (w6.drewN (1 + m7)).heap[w5.heap.size]? = some (.cells #[.int .i64 p, .int .i64 q, .int .i64 r] 24 (0, 0)) from Q6.out)
  clear T6 E6 HR6 H26 AT6 R6 Q6 RT K6 E0
  have hw7 : w5.heap.size < (w6.drewN (1 + m7)).heap.size := hw6
  generalize w6.drewN (1 + m7) = w7 at *
  by_cases hF0 : F = 0
  · subst hF0
    have hL : L = (x, y, z) :: es := by rw [HLL.out]; unfold pushL; rw [if_pos HFF.out.symm]
    subst hL
    obtain rfl : NL = 1 + 1 := by rw [HNL.out, List.length_cons, HL.out]
    obtain ⟨b8, o8, rfl, hb8, hc8⟩ := row_at3 H27.out (by omega)
    have e8 := hc8 0 (by simp)
    simp only [Nat.zero_mul, Nat.add_zero, List.getElem_cons_zero] at e8
    have E8 := Lib.hid e8
    clear hc8 e8
    go_wp2_with fail
    ((with_reducible refine (pop_calls b8 o8 (1 + 1) c2 _ x y z w7 H27.out E8.out hb8 (by omega) (by omega) Q2.out).mono ?_))
    rintro e w8 ⟨A8, c8, rfl, h8, _, b8'⟩
    rw [Nat.add_sub_cancel]
    simp only [List.drop_succ_cons, List.drop_zero] at h8
    have q8 := (b8'.block _ hw7).trans Q7.out
    have K8 := Lib.hid (bel_more K7.out (Nat.le_refl _) b8')
    have AT8 := Lib.hid (AT7.out.below b8' (by omega))
    have H8 := Lib.hid h8
    have g0 : w8.cell? ⟨w5.heap.size, 0, none⟩ = some (.int .i64 p) := cell_of_row _ _ _ _ _ _ q8
    have g1 : w8.cell? ⟨w5.heap.size, 1, none⟩ = some (.int .i64 q) := cell_of_row _ _ _ _ _ _ q8
    have g2 : w8.cell? ⟨w5.heap.size, 2, none⟩ = some (.int .i64 r) := cell_of_row _ _ _ _ _ _ q8
    have f0 : w8.frozen? ⟨w5.heap.size, 0, none⟩ = false := by simp [World.frozen?, q8]
    have f1 : w8.frozen? ⟨w5.heap.size, 1, none⟩ = false := by simp [World.frozen?, q8]
    have f2 : w8.frozen? ⟨w5.heap.size, 2, none⟩ = false := by simp [World.frozen?, q8]
    have Q8 := Lib.hid q8
    clear h8 b8' q8
    go_upto_region 17 with fail
    have hle : w.heap.size ≤ w5.heap.size := Nat.le_of_lt hw5
    have K9 := Lib.hid (((K8.out.setCell (p := ⟨w5.heap.size, 0, none⟩) hle (.int .i64 x)).setCell (p := ⟨w5.heap.size, 1, none⟩) hle (.int .i64 y)).setCell (p := ⟨w5.heap.size, 2, none⟩) hle (.int .i64 z))
    have b9 := ((((Below.refl w5.heap.size w8).setCell (p := ⟨w5.heap.size, 0, none⟩) (Nat.le_refl _) (.int .i64 x)).setCell (p := ⟨w5.heap.size, 1, none⟩) (Nat.le_refl _) (.int .i64 y)).setCell (p := ⟨w5.heap.size, 2, none⟩) (Nat.le_refl _) (.int .i64 z))
    have AT9 := Lib.hid (AT8.out.below b9 hw5)
    have H9 := Lib.hid (show AccE (((w8.setCell ⟨w5.heap.size, 0, none⟩ (.int .i64 x)).setCell ⟨w5.heap.size, 1, none⟩ (.int .i64 y)).setCell ⟨w5.heap.size, 2, none⟩ (.int .i64 z)) w7.heap.size A8 c8 es from accr_setBelow (accr_setBelow (accr_setBelow H8.out hw7 _) hw7 _) hw7 _)
    have Q9 := Lib.hid (set3 Q8.out (.int .i64 x) (.int .i64 y) (.int .i64 z))
    clear g0 g1 g2 f0 f1 f2 b9 K8 AT8 H8 Q8
    generalize ((w8.setCell ⟨w5.heap.size, 0, none⟩ (.int .i64 x)).setCell ⟨w5.heap.size, 1, none⟩ (.int .i64 y)).setCell ⟨w5.heap.size, 2, none⟩ (.int .i64 z) = w9 at *
    have g0 : w9.cell? ⟨w5.heap.size, 0, none⟩ = some (.int .i64 x) := cell_of_row _ _ _ _ _ _ Q9.out
    have g1 : w9.cell? ⟨w5.heap.size, 1, none⟩ = some (.int .i64 y) := cell_of_row _ _ _ _ _ _ Q9.out
    have g2 : w9.cell? ⟨w5.heap.size, 2, none⟩ = some (.int .i64 z) := cell_of_row _ _ _ _ _ _ Q9.out
    obtain ⟨g3, g4, g5⟩ := AT9.out
    have HR9 := Lib.hid (HR.out.below K9.out)
    have h9 := H9.out.row
    rw [HL.out] at h9
    have H9' := Lib.hid h9
    clear h9
    go_wp2_with fail
    ((with_reducible refine (same_calls A8 (some ⟨b, o, none⟩) 1 c8 1 es _ _ w9 H9'.out HR9.out (by omega)).mono ?_))
    rintro e w10 ⟨rfl, m10, rfl⟩
    go_wp2
    go_ret
    exact ⟨rfl, bel_drewN K9.out m10⟩
  · have hFb : (F != 0) = true := by simpa using hF0
    clear hF0
    go_wp2
    go_ret
    exact ⟨rfl, K7.out⟩

theorem moves_walk (a : Option Addr) (n c : Nat) (x y z : Int) (w : World) (h : n ≤ c ∧ c ≤ maxLen ∧ ∃ es, Row ec w w.heap.size a n es) :
    Calls Try.prog 5 #[.slice a n c, .agg #[.int .i64 x, .int .i64 y, .int .i64 z]] w fun e w' => e = .returned (.bool true) ∧ Below w.heap.size w w' := by
  obtain ⟨h1, h2, es, hr⟩ := h
  by_cases hn : n ≤ 4096
  · by_cases h0 : n = 0
    · exact moves_none a n c es x y z w hr hn h0
    · by_cases hc1 : c = 1
      · exact moves_one a n c es x y z w hr hn (by omega) hc1
      · exact moves_some a n c es x y z w hr hn (by omega) h1 hc1
  · exact moves_long a n c x y z w (by omega) (Nat.le_trans h1 h2)
end Go.Proofs.Ytjfjfmpdgcokdaa
