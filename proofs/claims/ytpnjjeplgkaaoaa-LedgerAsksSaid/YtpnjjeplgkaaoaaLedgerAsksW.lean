/-
  The law LedgerAsks, walked, under what the code must keep: the answer is true, and nothing that was there has turned. Condition: numbers of 64 bits.
-/
import Derived.Test.YtpnjjeplgkaaoaaLedgC
namespace Go.Proofs.Ytpnjjeplgkaaoaa
set_option maxRecDepth 100000
set_option linter.unusedVariables false
open Go.RowKit

set_option maxHeartbeats 1600000 in
theorem lasks_walk (h1 : AddOk13) (h2 : RightOk13) (h3 : FreeOk13) (h4 : PutOk13) (h6 : SumOk13) (l : Lg) (hl : LgOk l) (a : Int) (ha : 0 ≤ a ∧ a < 18446744073709551616) (b : Int) (hb : 0 ≤ b ∧ b < 18446744073709551616) (w : World) : Calls Try.prog 3 #[.agg (lgc l).toArray, .int .u64 a, .int .u64 b] w fun e w' => e = .returned (.bool true) ∧ Below w.heap.size w w' := by
  obtain ⟨a, rfl⟩ := Int.eq_ofNat_of_zero_le ha.1
  obtain ⟨b, rfl⟩ := Int.eq_ofNat_of_zero_le hb.1
  have ha' : a < 18446744073709551616 := by omega
  have hb' : b < 18446744073709551616 := by omega
  have k1 := h1 a b ha' hb'
  have k2 : ∀ w, Calls Try.prog 12 #[.int .u64 (a : Int), .int .u64 (b : Int)] w (Two13 (a + b) w) := fun w => (radd13_calls a b ha' hb' w).mono (by rintro e w' ⟨h, rfl⟩; exact ⟨h, Below.refl _ _⟩)
  have k3 := h6 l hl
  have k4 := rsum13_calls l hl
  have k5 := h2 l hl
  have k6 := rright13_calls l hl
  have k7 := h3 l hl
  have k8 := rfree13_calls l hl
  unfold Two13 at k1 k2 k3 k4
  obtain ⟨A, hA⟩ : ∃ A, aS (a + b) = A := ⟨_, rfl⟩
  obtain ⟨P, hP⟩ : ∃ P, decide (a + b < 18446744073709551616) = P := ⟨_, rfl⟩
  obtain ⟨S, hS⟩ : ∃ S, aS l.held.sum = S := ⟨_, rfl⟩
  obtain ⟨U, hU⟩ : ∃ U, decide (l.held.sum < 18446744073709551616) = U := ⟨_, rfl⟩
  obtain ⟨R, hR⟩ : ∃ R, lRight l = R := ⟨_, rfl⟩
  have hfl := lFree_length l
  obtain ⟨F, hF⟩ : ∃ F, lFree l = F := ⟨_, rfl⟩
  rw [hA, hP] at k1 k2
  rw [hS, hU] at k3 k4
  rw [hR] at k5 k6
  rw [hF] at k7 k8 hfl
  have HA := Lib.hid (fun W => alive13_calls h1 h2 h3 h4 W)
  have HT := Lib.hid (fun W => theirs13_calls l hl W)
  unfold Agg13 at HT
  have K1 := Lib.hid k1
  have K2 := Lib.hid k2
  have K3 := Lib.hid k3
  have K4 := Lib.hid k4
  have K5 := Lib.hid k5
  have K6 := Lib.hid k6
  have K7 := Lib.hid k7
  have K8 := Lib.hid k8
  have HEF := Lib.hid (fun W => eq_hl hfl hfl W true ⟨fun _ => rfl, fun _ => rfl⟩)
  have eA : ((A : Int) == (A : Int)) = true := by simp
  have eP : (P == P) = true := by cases P <;> rfl
  have eS : ((S : Int) == (S : Int)) = true := by simp
  have eU : (U == U) = true := by cases U <;> rfl
  have eR : (R == R) = true := by cases R <;> rfl
  have HIl := Lib.hid (infoLedg9R l hl)
  have HJl := Lib.hid (infoLedg9 l hl)
  have HOl := Lib.hid (lgc_one l)
  have HNl := Lib.hid (show ([.int .u64 0, .int .u64 0, .int .u64 0, .int .u64 0, .int .u64 0, .int .u64 0, .int .u64 0, .int .u64 0, .int .u64 0] : List Value).length = (lgc l).length by rw [lgc_length hl]; rfl)
  have HBw1 := Lib.hid (Blk.new w 25 (lgc l))
  have HLw1 := Lib.hid (bel_new (Below.refl w.heap.size w) (.cells (lgc l).toArray 25))
  clear h1 h2 h3 h4 h6 hA hP hS hU hR hF hfl ha hb ha' hb' k1 k2 k3 k4 k5 k6 k7 k8 hl
  go_enter Try.func3, Try.ntmps3
  go_wp2_with fail
  generalize (w.alloc (.cells (lgc l).toArray 25)) = w1 at *
  ((with_reducible refine (HA.out w1).mono ?_))
  rintro e w2 ⟨rfl, hb⟩
  have hb9 : Below w1.heap.size w1 w2 := hb
  have HBw2 := Lib.hid (HBw1.out.below hb9)
  have HLw2 := Lib.hid (HLw1.out.trans (hb9.mono HLw1.out.size))
  clear hb9 HBw1 HLw1
  clear hb
  go_wp2_with fail
  ((with_reducible refine (K1.out w2).mono ?_))
  rintro e w3 ⟨rfl, hb⟩
  have hb9 : Below w2.heap.size w2 w3 := hb
  have HBw3 := Lib.hid (HBw2.out.below hb9)
  have HLw3 := Lib.hid (HLw2.out.trans (hb9.mono HLw2.out.size))
  clear hb9 HBw2 HLw2
  clear hb
  go_wp2_with fail
  ((with_reducible refine (K2.out w3).mono ?_))
  rintro e w4 ⟨rfl, hb⟩
  have hb9 : Below w3.heap.size w3 w4 := hb
  have HBw4 := Lib.hid (HBw3.out.below hb9)
  have HLw4 := Lib.hid (HLw3.out.trans (hb9.mono HLw3.out.size))
  clear hb9 HBw3 HLw3
  clear hb
  go_wp2_with ((with_reducible refine step_load (o := ⟨some 30, _, _, _, _, _⟩) (x := .tmp 3) ?_ ?_ ?_ HBw4.out Try.underlying25 ?_ HIl.out ?_); (rfl); (rfl); (rfl); (rfl))
  ((with_reducible refine (HT.out w4).mono ?_))
  rintro e w5 ⟨rfl, hb⟩
  have hb9 : Below w4.heap.size w4 w5 := hb
  have HBw5 := Lib.hid (HBw4.out.below hb9)
  have HLw5 := Lib.hid (HLw4.out.trans (hb9.mono HLw4.out.size))
  clear hb9 HBw4 HLw4
  clear hb
  go_wp2_with fail
  ((with_reducible refine (K3.out w5).mono ?_))
  rintro e w6 ⟨rfl, hb⟩
  have hb9 : Below w5.heap.size w5 w6 := hb
  have HBw6 := Lib.hid (HBw5.out.below hb9)
  have HLw6 := Lib.hid (HLw5.out.trans (hb9.mono HLw5.out.size))
  clear hb9 HBw5 HLw5
  clear hb
  go_wp2_with ((with_reducible refine step_load (o := ⟨some 36, _, _, _, _, _⟩) (x := .tmp 3) ?_ ?_ ?_ HBw6.out Try.underlying25 ?_ HIl.out ?_); (rfl); (rfl); (rfl); (rfl))
  ((with_reducible refine (K4.out w6).mono ?_))
  rintro e w7 ⟨rfl, hb⟩
  have hb9 : Below w6.heap.size w6 w7 := hb
  have HBw7 := Lib.hid (HBw6.out.below hb9)
  have HLw7 := Lib.hid (HLw6.out.trans (hb9.mono HLw6.out.size))
  clear hb9 HBw6 HLw6
  clear hb
  go_wp2_with fail
  refine region_seq (fun W => Below w7.heap.size w7 W) [(0, true), (1, true), (2, true), (3, true), (4, true), (5, true), (6, true), (7, true), (8, true), (9, true), (10, true), (11, true), (12, true), (13, true), (14, true), (15, true), (16, true), (17, true), (18, true), (19, true), (22, true), (20, false), (21, false), (23, false), (24, true), (25, true), (26, true), (27, true), (30, true), (28, false), (29, false), (31, false), (32, true), (33, true), (34, true)]
    (by kernel_rfl) (by kernel_rfl) (by kernel_rfl) (by kernel_rfl) (fun _ _ _ _ _ h => h) (Below.refl _ _).drew ?_
  repeat first
    | refine seq_load8 (x := .tmp 3) rfl (by rfl) rfl rfl (fun W hW => HBw7.out.below hW) Try.underlying25 rfl HIl.out ?_
      simp only [Act.put, List.setIfInBounds_toArray, List.set_cons_zero, List.set_cons_succ]
    | refine seq_eqA (c := true) rfl (by rfl) rfl rfl rfl (by kernel_rfl) HEF.out ?_
      simp only [Act.put, List.setIfInBounds_toArray, List.set_cons_zero, List.set_cons_succ]
    | refine seq_pure (v := ?_) rfl (by rfl) (fun W hW => ?_) ?_
      rotate_left
      · clear hW
        go_simp
        with_reducible rfl
      simp only [Act.put, List.setIfInBounds_toArray, List.set_cons_zero, List.set_cons_succ]
  refine seq_make rfl (by rfl) (fun K hK => ?_)
  go_simp
  have hc := HT.out w7.drew
  ((with_reducible refine hc.mono ?_))
  rintro e w8 ⟨rfl, hb⟩
  have SBw8 := Lib.hid (show Below w7.heap.size w7 w8 from below_of_drew hb)
  clear hc hb
  go_simp
  refine hK _ _ (fun W => Below w7.heap.size w7 W) (fun W h => h) SBw8.out ?_
  clear hK K
  refine seq_make rfl (by rfl) (fun K hK => ?_)
  go_simp
  have hc := K5.out w8
  ((with_reducible refine hc.mono ?_))
  rintro e w9 ⟨rfl, hb⟩
  have SBw9 := Lib.hid (show Below w7.heap.size w7 w9 from SBw8.out.trans (hb.mono SBw8.out.size))
  clear hc hb
  go_simp
  refine hK _ _ (fun W => Below w7.heap.size w7 W) (fun W h => h) SBw9.out ?_
  clear hK K
  refine seq_make rfl (by rfl) (fun K hK => ?_)
  go_simp
  have hc := K6.out w9
  ((with_reducible refine hc.mono ?_))
  rintro e w10 ⟨rfl, hb⟩
  have SBw10 := Lib.hid (show Below w7.heap.size w7 w10 from SBw9.out.trans (hb.mono SBw9.out.size))
  clear hc hb
  go_simp
  refine hK _ _ (fun W => Below w7.heap.size w7 W) (fun W h => h) SBw10.out ?_
  clear hK K
  repeat first
    | refine seq_load8 (x := .tmp 3) rfl (by rfl) rfl rfl (fun W hW => HBw7.out.below hW) Try.underlying25 rfl HIl.out ?_
      simp only [Act.put, List.setIfInBounds_toArray, List.set_cons_zero, List.set_cons_succ]
    | refine seq_eqA (c := true) rfl (by rfl) rfl rfl rfl (by kernel_rfl) HEF.out ?_
      simp only [Act.put, List.setIfInBounds_toArray, List.set_cons_zero, List.set_cons_succ]
    | refine seq_pure (v := ?_) rfl (by rfl) (fun W hW => ?_) ?_
      rotate_left
      · clear hW
        go_simp
        with_reducible rfl
      simp only [Act.put, List.setIfInBounds_toArray, List.set_cons_zero, List.set_cons_succ]
  refine seq_make rfl (by rfl) (fun K hK => ?_)
  go_simp
  have hc := HT.out w10
  ((with_reducible refine hc.mono ?_))
  rintro e w11 ⟨rfl, hb⟩
  have SBw11 := Lib.hid (show Below w7.heap.size w7 w11 from SBw10.out.trans (hb.mono SBw10.out.size))
  clear hc hb
  go_simp
  refine hK _ _ (fun W => Below w7.heap.size w7 W) (fun W h => h) SBw11.out ?_
  clear hK K
  refine seq_make rfl (by rfl) (fun K hK => ?_)
  go_simp
  have hc := K7.out w11
  ((with_reducible refine hc.mono ?_))
  rintro e w12 ⟨rfl, hb⟩
  have SBw12 := Lib.hid (show Below w7.heap.size w7 w12 from SBw11.out.trans (hb.mono SBw11.out.size))
  clear hc hb
  go_simp
  refine hK _ _ (fun W => Below w7.heap.size w7 W) (fun W h => h) SBw12.out ?_
  clear hK K
  refine seq_make rfl (by rfl) (fun K hK => ?_)
  go_simp
  have hc := K8.out w12
  ((with_reducible refine hc.mono ?_))
  rintro e w13 ⟨rfl, hb⟩
  have SBw13 := Lib.hid (show Below w7.heap.size w7 w13 from SBw12.out.trans (hb.mono SBw12.out.size))
  clear hc hb
  go_simp
  refine hK _ _ (fun W => Below w7.heap.size w7 W) (fun W h => h) SBw13.out ?_
  clear hK K
  repeat first
    | refine seq_load8 (x := .tmp 3) rfl (by rfl) rfl rfl (fun W hW => HBw7.out.below hW) Try.underlying25 rfl HIl.out ?_
      simp only [Act.put, List.setIfInBounds_toArray, List.set_cons_zero, List.set_cons_succ]
    | refine seq_eqA (c := true) rfl (by rfl) rfl rfl rfl (by kernel_rfl) HEF.out ?_
      simp only [Act.put, List.setIfInBounds_toArray, List.set_cons_zero, List.set_cons_succ]
    | refine seq_pure (v := ?_) rfl (by rfl) (fun W hW => ?_) ?_
      rotate_left
      · clear hW
        go_simp
        with_reducible rfl
      simp only [Act.put, List.setIfInBounds_toArray, List.set_cons_zero, List.set_cons_succ]
  refine seq_done ?_
  have hb9 : Below w7.heap.size w7 w13 := SBw13.out
  have HBw13 := Lib.hid (HBw7.out.below hb9)
  have HLw13 := Lib.hid (HLw7.out.trans (hb9.mono HLw7.out.size))
  clear hb9 HBw7 HLw7
  go_wp2
  go_ret
  exact ⟨rfl, HLw13.out⟩
end Go.Proofs.Ytpnjjeplgkaaoaa
