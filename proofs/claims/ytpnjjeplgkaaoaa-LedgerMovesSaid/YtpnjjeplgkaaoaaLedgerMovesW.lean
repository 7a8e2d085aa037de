/-
  The law LedgerMoves, walked, under what the code must keep: the answer is true, and nothing that was there has turned. Condition: numbers of 64 bits.
-/
import Derived.Test.YtpnjjeplgkaaoaaLedgC
namespace Go.Proofs.Ytpnjjeplgkaaoaa
set_option maxRecDepth 100000
set_option linter.unusedVariables false
open Go.RowKit

set_option maxHeartbeats 1600000 in
theorem lmoves_walk (h1 : AddOk13) (h2 : RightOk13) (h3 : FreeOk13) (h4 : PutOk13) (h5 : TakeOk13) (l : Lg) (hl : LgOk l) (p : Int) (hp : -9223372036854775808 ≤ p ∧ p < 9223372036854775808) (b : Int) (hb : 0 ≤ b ∧ b < 18446744073709551616) (w : World) : Calls Try.prog 4 #[.agg (lgc l).toArray, .int .i64 p, .int .u64 b] w fun e w' => e = .returned (.bool true) ∧ Below w.heap.size w w' := by
  obtain ⟨b, rfl⟩ := Int.eq_ofNat_of_zero_le hb.1
  have hb' : b < 18446744073709551616 := by omega
  have okX := lPut_ok hl p b
  have okY := lTake_ok hl p b
  have hpc := h4 l hl p hp.1 hp.2 b hb'
  have hrc := rput13_calls l hl p b hb'
  have htc := h5 l hl p hp.1 hp.2 b hb'
  have hvc := rtake13_calls l hl p b hb'
  unfold Lgn13 at hpc hrc htc hvc
  obtain ⟨X, hX⟩ : ∃ X, (lPut l p b).1 = X := ⟨_, rfl⟩
  obtain ⟨E, hE⟩ : ∃ E, (lPut l p b).2 = E := ⟨_, rfl⟩
  obtain ⟨Y, hY⟩ : ∃ Y, (lTake l p b).1 = Y := ⟨_, rfl⟩
  obtain ⟨F, hF⟩ : ∃ F, (lTake l p b).2 = F := ⟨_, rfl⟩
  rw [hX] at okX hpc hrc
  rw [hE] at hpc hrc
  rw [hY] at okY htc hvc
  rw [hF] at htc hvc
  have HA := Lib.hid (fun W => alive13_calls h1 h2 h3 h4 W)
  have HT := Lib.hid (fun W => theirs13_calls l hl W)
  have HUX := Lib.hid (fun W => ours13_calls X okX W)
  have HUY := Lib.hid (fun W => ours13_calls Y okY W)
  unfold Agg13 at HT HUX HUY
  have HP := Lib.hid hpc
  have HR := Lib.hid hrc
  have HQ := Lib.hid htc
  have HV := Lib.hid hvc
  have HEX := Lib.hid (fun W => eq_lgR okX okX W true ⟨fun _ => rfl, fun _ => rfl⟩)
  have HEY := Lib.hid (fun W => eq_lgR okY okY W true ⟨fun _ => rfl, fun _ => rfl⟩)
  have eE : (E == E) = true := by simp
  have eF : (F == F) = true := by simp
  have HIl := Lib.hid (infoLedg9R l hl)
  have HJl := Lib.hid (infoLedg9 l hl)
  have HOl := Lib.hid (lgc_one l)
  have HNl := Lib.hid (show ([.int .u64 0, .int .u64 0, .int .u64 0, .int .u64 0, .int .u64 0, .int .u64 0, .int .u64 0, .int .u64 0, .int .u64 0] : List Value).length = (lgc l).length by rw [lgc_length hl]; rfl)
  have HIX := Lib.hid (infoLedg9R X okX)
  have HJX := Lib.hid (infoLedg9 X okX)
  have HOX := Lib.hid (lgc_one X)
  have HNX := Lib.hid (show ([.int .u64 0, .int .u64 0, .int .u64 0, .int .u64 0, .int .u64 0, .int .u64 0, .int .u64 0, .int .u64 0, .int .u64 0] : List Value).length = (lgc X).length by rw [lgc_length okX]; rfl)
  have HIY := Lib.hid (infoLedg9R Y okY)
  have HJY := Lib.hid (infoLedg9 Y okY)
  have HOY := Lib.hid (lgc_one Y)
  have HNY := Lib.hid (show ([.int .u64 0, .int .u64 0, .int .u64 0, .int .u64 0, .int .u64 0, .int .u64 0, .int .u64 0, .int .u64 0, .int .u64 0] : List Value).length = (lgc Y).length by rw [lgc_length okY]; rfl)
  have HZL := Lib.hid (fun W : World => (show Blk (W.alloc (.cells #[.int .u64 0, .int .u64 0, .int .u64 0, .int .u64 0, .int .u64 0, .int .u64 0, .int .u64 0, .int .u64 0, .int .u64 0] 30)) W.heap.size 30 [.int .u64 0, .int .u64 0, .int .u64 0, .int .u64 0, .int .u64 0, .int .u64 0, .int .u64 0, .int .u64 0, .int .u64 0] from Blk.new W _ _))
  have HZR := Lib.hid (fun W : World => (show Blk (W.alloc (.cells #[.int .u64 0, .int .u64 0, .int .u64 0, .int .u64 0, .int .u64 0, .int .u64 0, .int .u64 0, .int .u64 0, .int .u64 0] 25)) W.heap.size 25 [.int .u64 0, .int .u64 0, .int .u64 0, .int .u64 0, .int .u64 0, .int .u64 0, .int .u64 0, .int .u64 0, .int .u64 0] from Blk.new W _ _))
  have HBw1 := Lib.hid (Blk.new w 25 (lgc l))
  have HLw1 := Lib.hid (bel_new (Below.refl w.heap.size w) (.cells (lgc l).toArray 25))
  clear h1 h2 h3 h4 h5 hX hE hY hF hpc htc hrc hvc hp hb hb' hl okX okY
  go_enter Try.func4, Try.ntmps4
  go_wp2_with fail
  generalize (w.alloc (.cells (lgc l).toArray 25)) = w1 at *
  ((with_reducible refine (HA.out w1).mono ?_))
  rintro e w2 ⟨rfl, hb⟩
  have hb9 : Below w1.heap.size w1 w2 := hb
  have HBw2 := Lib.hid (HBw1.out.below hb9)
  have HLw2 := Lib.hid (HLw1.out.trans (hb9.mono HLw1.out.size))
  clear hb9 HBw1 HLw1
  clear hb
  go_wp2_with ((with_reducible refine step_load (o := ⟨some 18, _, _, _, _, _⟩) (x := .tmp 3) ?_ ?_ ?_ HBw2.out Try.underlying25 ?_ HIl.out ?_); (rfl); (rfl); (rfl); (rfl))
  ((with_reducible refine (HT.out w2).mono ?_))
  rintro e w3 ⟨rfl, hb⟩
  have hb9 : Below w2.heap.size w2 w3 := hb
  have HBw3 := Lib.hid (HBw2.out.below hb9)
  have HLw3 := Lib.hid (HLw2.out.trans (hb9.mono HLw2.out.size))
  clear hb9 HBw2 HLw2
  clear hb
  go_wp2_with fail
  ((with_reducible refine (HP.out w3).mono ?_))
  rintro e w4 ⟨rfl, hb⟩
  have hb9 : Below w3.heap.size w3 w4 := hb
  have HBw4 := Lib.hid (HBw3.out.below hb9)
  have HLw4 := Lib.hid (HLw3.out.trans (hb9.mono HLw3.out.size))
  clear hb9 HBw3 HLw3
  clear hb
  go_upto_region 4 with ((with_reducible refine step_store (o := ⟨none, _, _, _, _, _⟩) (vs := lgc X) (ty := 30) (x := .tmp 7) (y := .tmp 23) ?_ ?_ ?_ ?_ (HZL.out _) HJX.out HNX.out HOX.out ?_); (rfl); (rfl); (rfl); (rfl); intro w5 hb5 hg5 hs5)
  have HXw5 := Lib.hid hb5
  have hq5 : Below w4.heap.size w4 w5 := bel_upd (bel_new (Below.refl _ _) _) hg5 (Nat.le_refl _) (Nat.le_refl _)
  clear hb5 hg5 hs5
  have hb9 : Below w4.heap.size w4 w5 := hq5
  have HBw5 := Lib.hid (HBw4.out.below hb9)
  have HLw5 := Lib.hid (HLw4.out.trans (hb9.mono HLw4.out.size))
  clear hb9 HBw4 HLw4
  clear hq5
  generalize w4.heap.size = q5 at *
  go_wp2_with ((with_reducible refine step_load (o := ⟨some 26, _, _, _, _, _⟩) (x := .tmp 3) ?_ ?_ ?_ HBw5.out Try.underlying25 ?_ HIl.out ?_); (rfl); (rfl); (rfl); (rfl))
  ((with_reducible refine (HR.out w5).mono ?_))
  rintro e w6 ⟨rfl, hb⟩
  have hb9 : Below w5.heap.size w5 w6 := hb
  have HBw6 := Lib.hid (HBw5.out.below hb9)
  have HXw6 := Lib.hid (HXw5.out.below hb9)
  have HLw6 := Lib.hid (HLw5.out.trans (hb9.mono HLw5.out.size))
  clear hb9 HBw5 HXw5 HLw5
  clear hb
  go_upto_region 5 with ((with_reducible refine step_store (o := ⟨none, _, _, _, _, _⟩) (vs := lgc X) (ty := 25) (x := .tmp 9) (y := .tmp 30) ?_ ?_ ?_ ?_ (HZR.out _) HIX.out HNX.out HOX.out ?_); (rfl); (rfl); (rfl); (rfl); intro w7 hb7 hg7 hs7)
  have HX2w7 := Lib.hid hb7
  have hq7 : Below w6.heap.size w6 w7 := bel_upd (bel_new (Below.refl _ _) _) hg7 (Nat.le_refl _) (Nat.le_refl _)
  clear hb7 hg7 hs7
  have hb9 : Below w6.heap.size w6 w7 := hq7
  have HBw7 := Lib.hid (HBw6.out.below hb9)
  have HXw7 := Lib.hid (HXw6.out.below hb9)
  have HLw7 := Lib.hid (HLw6.out.trans (hb9.mono HLw6.out.size))
  clear hb9 HBw6 HXw6 HLw6
  clear hq7
  generalize w6.heap.size = q7 at *
  go_wp2_with ((with_reducible refine step_load (o := ⟨some 33, _, _, _, _, _⟩) (x := .tmp 3) ?_ ?_ ?_ HBw7.out Try.underlying25 ?_ HIl.out ?_); (rfl); (rfl); (rfl); (rfl))
  ((with_reducible refine (HT.out w7).mono ?_))
  rintro e w8 ⟨rfl, hb⟩
  have hb9 : Below w7.heap.size w7 w8 := hb
  have HBw8 := Lib.hid (HBw7.out.below hb9)
  have HXw8 := Lib.hid (HXw7.out.below hb9)
  have HX2w8 := Lib.hid (HX2w7.out.below hb9)
  have HLw8 := Lib.hid (HLw7.out.trans (hb9.mono HLw7.out.size))
  clear hb9 HBw7 HXw7 HX2w7 HLw7
  clear hb
  go_wp2_with fail
  ((with_reducible refine (HQ.out w8).mono ?_))
  rintro e w9 ⟨rfl, hb⟩
  have hb9 : Below w8.heap.size w8 w9 := hb
  have HBw9 := Lib.hid (HBw8.out.below hb9)
  have HXw9 := Lib.hid (HXw8.out.below hb9)
  have HX2w9 := Lib.hid (HX2w8.out.below hb9)
  have HLw9 := Lib.hid (HLw8.out.trans (hb9.mono HLw8.out.size))
  clear hb9 HBw8 HXw8 HX2w8 HLw8
  clear hb
  go_upto_region 6 with ((with_reducible refine step_store (o := ⟨none, _, _, _, _, _⟩) (vs := lgc Y) (ty := 30) (x := .tmp 11) (y := .tmp 38) ?_ ?_ ?_ ?_ (HZL.out _) HJY.out HNY.out HOY.out ?_); (rfl); (rfl); (rfl); (rfl); intro w10 hb10 hg10 hs10)
  have HYw10 := Lib.hid hb10
  have hq10 : Below w9.heap.size w9 w10 := bel_upd (bel_new (Below.refl _ _) _) hg10 (Nat.le_refl _) (Nat.le_refl _)
  clear hb10 hg10 hs10
  have hb9 : Below w9.heap.size w9 w10 := hq10
  have HBw10 := Lib.hid (HBw9.out.below hb9)
  have HXw10 := Lib.hid (HXw9.out.below hb9)
  have HX2w10 := Lib.hid (HX2w9.out.below hb9)
  have HLw10 := Lib.hid (HLw9.out.trans (hb9.mono HLw9.out.size))
  clear hb9 HBw9 HXw9 HX2w9 HLw9
  clear hq10
  generalize w9.heap.size = q10 at *
  go_wp2_with ((with_reducible refine step_load (o := ⟨some 41, _, _, _, _, _⟩) (x := .tmp 3) ?_ ?_ ?_ HBw10.out Try.underlying25 ?_ HIl.out ?_); (rfl); (rfl); (rfl); (rfl))
  ((with_reducible refine (HV.out w10).mono ?_))
  rintro e w11 ⟨rfl, hb⟩
  have hb9 : Below w10.heap.size w10 w11 := hb
  have HBw11 := Lib.hid (HBw10.out.below hb9)
  have HXw11 := Lib.hid (HXw10.out.below hb9)
  have HX2w11 := Lib.hid (HX2w10.out.below hb9)
  have HYw11 := Lib.hid (HYw10.out.below hb9)
  have HLw11 := Lib.hid (HLw10.out.trans (hb9.mono HLw10.out.size))
  clear hb9 HBw10 HXw10 HX2w10 HYw10 HLw10
  clear hb
  go_upto_region 7 with ((with_reducible refine step_store (o := ⟨none, _, _, _, _, _⟩) (vs := lgc Y) (ty := 25) (x := .tmp 13) (y := .tmp 45) ?_ ?_ ?_ ?_ (HZR.out _) HIY.out HNY.out HOY.out ?_); (rfl); (rfl); (rfl); (rfl); intro w12 hb12 hg12 hs12)
  have HY2w12 := Lib.hid hb12
  have hq12 : Below w11.heap.size w11 w12 := bel_upd (bel_new (Below.refl _ _) _) hg12 (Nat.le_refl _) (Nat.le_refl _)
  clear hb12 hg12 hs12
  have hb9 : Below w11.heap.size w11 w12 := hq12
  have HBw12 := Lib.hid (HBw11.out.below hb9)
  have HXw12 := Lib.hid (HXw11.out.below hb9)
  have HX2w12 := Lib.hid (HX2w11.out.below hb9)
  have HYw12 := Lib.hid (HYw11.out.below hb9)
  have HLw12 := Lib.hid (HLw11.out.trans (hb9.mono HLw11.out.size))
  clear hb9 HBw11 HXw11 HX2w11 HYw11 HLw11
  clear hq12
  generalize w11.heap.size = q12 at *
  refine region_seq (fun W => Below w12.heap.size w12 W) [(0, true), (2, true), (1, false), (3, true), (4, true), (5, true), (6, true), (7, true), (8, true), (9, true), (10, true), (12, true), (11, false), (13, true), (14, true), (15, true), (16, true), (17, true), (18, true), (19, true), (20, true)]
    (by kernel_rfl) (by kernel_rfl) (by kernel_rfl) (by kernel_rfl) (fun _ _ _ _ _ h => h) (Below.refl _ _).drew ?_
  repeat first
    | refine seq_load8 (x := .tmp 3) rfl (by rfl) rfl rfl (fun W hW => HBw12.out.below hW) Try.underlying25 rfl HIl.out ?_
      simp only [Act.put, List.setIfInBounds_toArray, List.set_cons_zero, List.set_cons_succ]
    | refine seq_load8 (x := .tmp 7) rfl (by rfl) rfl rfl (fun W hW => HXw12.out.below hW) Try.underlying30 rfl HJX.out ?_
      simp only [Act.put, List.setIfInBounds_toArray, List.set_cons_zero, List.set_cons_succ]
    | refine seq_load8 (x := .tmp 9) rfl (by rfl) rfl rfl (fun W hW => HX2w12.out.below hW) Try.underlying25 rfl HIX.out ?_
      simp only [Act.put, List.setIfInBounds_toArray, List.set_cons_zero, List.set_cons_succ]
    | refine seq_load8 (x := .tmp 11) rfl (by rfl) rfl rfl (fun W hW => HYw12.out.below hW) Try.underlying30 rfl HJY.out ?_
      simp only [Act.put, List.setIfInBounds_toArray, List.set_cons_zero, List.set_cons_succ]
    | refine seq_load8 (x := .tmp 13) rfl (by rfl) rfl rfl (fun W hW => HY2w12.out.below hW) Try.underlying25 rfl HIY.out ?_
      simp only [Act.put, List.setIfInBounds_toArray, List.set_cons_zero, List.set_cons_succ]
    | refine seq_eqA (c := true) rfl (by rfl) rfl rfl rfl (by kernel_rfl) HEX.out ?_
      simp only [Act.put, List.setIfInBounds_toArray, List.set_cons_zero, List.set_cons_succ]
    | refine seq_eqA (c := true) rfl (by rfl) rfl rfl rfl (by kernel_rfl) HEY.out ?_
      simp only [Act.put, List.setIfInBounds_toArray, List.set_cons_zero, List.set_cons_succ]
    | refine seq_pure (v := ?_) rfl (by rfl) (fun W hW => ?_) ?_
      rotate_left
      · clear hW
        go_simp
        with_reducible rfl
      simp only [Act.put, List.setIfInBounds_toArray, List.set_cons_zero, List.set_cons_succ]
  refine seq_make rfl (by rfl) (fun K hK => ?_)
  go_simp
  have hc := HUX.out w12.drew
  ((with_reducible refine hc.mono ?_))
  rintro e w13 ⟨rfl, hb⟩
  have SBw13 := Lib.hid (show Below w12.heap.size w12 w13 from below_of_drew hb)
  clear hc hb
  go_simp
  refine hK _ _ (fun W => Below w12.heap.size w12 W) (fun W h => h) SBw13.out ?_
  clear hK K
  repeat first
    | refine seq_load8 (x := .tmp 3) rfl (by rfl) rfl rfl (fun W hW => HBw12.out.below hW) Try.underlying25 rfl HIl.out ?_
      simp only [Act.put, List.setIfInBounds_toArray, List.set_cons_zero, List.set_cons_succ]
    | refine seq_load8 (x := .tmp 7) rfl (by rfl) rfl rfl (fun W hW => HXw12.out.below hW) Try.underlying30 rfl HJX.out ?_
      simp only [Act.put, List.setIfInBounds_toArray, List.set_cons_zero, List.set_cons_succ]
    | refine seq_load8 (x := .tmp 9) rfl (by rfl) rfl rfl (fun W hW => HX2w12.out.below hW) Try.underlying25 rfl HIX.out ?_
      simp only [Act.put, List.setIfInBounds_toArray, List.set_cons_zero, List.set_cons_succ]
    | refine seq_load8 (x := .tmp 11) rfl (by rfl) rfl rfl (fun W hW => HYw12.out.below hW) Try.underlying30 rfl HJY.out ?_
      simp only [Act.put, List.setIfInBounds_toArray, List.set_cons_zero, List.set_cons_succ]
    | refine seq_load8 (x := .tmp 13) rfl (by rfl) rfl rfl (fun W hW => HY2w12.out.below hW) Try.underlying25 rfl HIY.out ?_
      simp only [Act.put, List.setIfInBounds_toArray, List.set_cons_zero, List.set_cons_succ]
    | refine seq_eqA (c := true) rfl (by rfl) rfl rfl rfl (by kernel_rfl) HEX.out ?_
      simp only [Act.put, List.setIfInBounds_toArray, List.set_cons_zero, List.set_cons_succ]
    | refine seq_eqA (c := true) rfl (by rfl) rfl rfl rfl (by kernel_rfl) HEY.out ?_
      simp only [Act.put, List.setIfInBounds_toArray, List.set_cons_zero, List.set_cons_succ]
    | refine seq_pure (v := ?_) rfl (by rfl) (fun W hW => ?_) ?_
      rotate_left
      · clear hW
        go_simp
        with_reducible rfl
      simp only [Act.put, List.setIfInBounds_toArray, List.set_cons_zero, List.set_cons_succ]
  refine seq_make rfl (by rfl) (fun K hK => ?_)
  go_simp
  have hc := HUY.out w13
  ((with_reducible refine hc.mono ?_))
  rintro e w14 ⟨rfl, hb⟩
  have SBw14 := Lib.hid (show Below w12.heap.size w12 w14 from SBw13.out.trans (hb.mono SBw13.out.size))
  clear hc hb
  go_simp
  refine hK _ _ (fun W => Below w12.heap.size w12 W) (fun W h => h) SBw14.out ?_
  clear hK K
  repeat first
    | refine seq_load8 (x := .tmp 3) rfl (by rfl) rfl rfl (fun W hW => HBw12.out.below hW) Try.underlying25 rfl HIl.out ?_
      simp only [Act.put, List.setIfInBounds_toArray, List.set_cons_zero, List.set_cons_succ]
    | refine seq_load8 (x := .tmp 7) rfl (by rfl) rfl rfl (fun W hW => HXw12.out.below hW) Try.underlying30 rfl HJX.out ?_
      simp only [Act.put, List.setIfInBounds_toArray, List.set_cons_zero, List.set_cons_succ]
    | refine seq_load8 (x := .tmp 9) rfl (by rfl) rfl rfl (fun W hW => HX2w12.out.below hW) Try.underlying25 rfl HIX.out ?_
      simp only [Act.put, List.setIfInBounds_toArray, List.set_cons_zero, List.set_cons_succ]
    | refine seq_load8 (x := .tmp 11) rfl (by rfl) rfl rfl (fun W hW => HYw12.out.below hW) Try.underlying30 rfl HJY.out ?_
      simp only [Act.put, List.setIfInBounds_toArray, List.set_cons_zero, List.set_cons_succ]
    | refine seq_load8 (x := .tmp 13) rfl (by rfl) rfl rfl (fun W hW => HY2w12.out.below hW) Try.underlying25 rfl HIY.out ?_
      simp only [Act.put, List.setIfInBounds_toArray, List.set_cons_zero, List.set_cons_succ]
    | refine seq_eqA (c := true) rfl (by rfl) rfl rfl rfl (by kernel_rfl) HEX.out ?_
      simp only [Act.put, List.setIfInBounds_toArray, List.set_cons_zero, List.set_cons_succ]
    | refine seq_eqA (c := true) rfl (by rfl) rfl rfl rfl (by kernel_rfl) HEY.out ?_
      simp only [Act.put, List.setIfInBounds_toArray, List.set_cons_zero, List.set_cons_succ]
    | refine seq_pure (v := ?_) rfl (by rfl) (fun W hW => ?_) ?_
      rotate_left
      · clear hW
        go_simp
        with_reducible rfl
      simp only [Act.put, List.setIfInBounds_toArray, List.set_cons_zero, List.set_cons_succ]
  refine seq_done ?_
  have hb9 : Below w12.heap.size w12 w14 := SBw14.out
  have HBw14 := Lib.hid (HBw12.out.below hb9)
  have HXw14 := Lib.hid (HXw12.out.below hb9)
  have HX2w14 := Lib.hid (HX2w12.out.below hb9)
  have HYw14 := Lib.hid (HYw12.out.below hb9)
  have HY2w14 := Lib.hid (HY2w12.out.below hb9)
  have HLw14 := Lib.hid (HLw12.out.trans (hb9.mono HLw12.out.size))
  clear hb9 HBw12 HXw12 HX2w12 HYw12 HY2w12 HLw12
  go_wp2
  go_ret
  exact ⟨rfl, HLw14.out⟩
end Go.Proofs.Ytpnjjeplgkaaoaa
