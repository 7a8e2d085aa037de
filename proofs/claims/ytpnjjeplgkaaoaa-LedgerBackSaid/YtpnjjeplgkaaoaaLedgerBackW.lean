/-
  The law LedgerBack, walked, under what the code must keep: the answer is true, and nothing that was there has turned. Condition: numbers of 64 bits.
-/
import Derived.Test.YtpnjjeplgkaaoaaLedgC
namespace Go.Proofs.Ytpnjjeplgkaaoaa
set_option maxRecDepth 100000
set_option linter.unusedVariables false
open Go.RowKit

set_option maxHeartbeats 1600000 in
theorem lback_walk (h1 : AddOk13) (h2 : RightOk13) (h3 : FreeOk13) (h4 : PutOk13) (h5 : TakeOk13) (l : Lg) (hl : LgOk l) (p : Int) (hp : -9223372036854775808 ≤ p ∧ p < 9223372036854775808) (b : Int) (hb : 0 ≤ b ∧ b < 18446744073709551616) (w : World) : Calls Try.prog 5 #[.agg (lgc l).toArray, .int .i64 p, .int .u64 b] w fun e w' => e = .returned (.bool true) ∧ Below w.heap.size w w' := by
  obtain ⟨b, rfl⟩ := Int.eq_ofNat_of_zero_le hb.1
  have hb' : b < 18446744073709551616 := by omega
  have okX := lPut_ok hl p b
  have hbad := lPut_bad (l := l) (p := p) (b := b)
  have hback := put_take hl (p := p) (b := b)
  have hpc := h4 l hl p hp.1 hp.2 b hb'
  unfold Lgn13 at hpc
  obtain ⟨X, hX⟩ : ∃ X, (lPut l p b).1 = X := ⟨_, rfl⟩
  obtain ⟨E, hE⟩ : ∃ E, (lPut l p b).2 = E := ⟨_, rfl⟩
  rw [hX] at okX hbad hback hpc
  rw [hE] at hbad hback hpc
  have htc := h5 X okX p hp.1 hp.2 b hb'
  have HA := Lib.hid (fun W => alive13_calls h1 h2 h3 h4 W)
  have HT := Lib.hid (fun W => theirs13_calls l hl W)
  have HU := Lib.hid (fun W => ours13_calls l hl W)
  unfold Agg13 at HT HU
  have HP := Lib.hid hpc
  have HQ := Lib.hid htc
  have HEQ := Lib.hid (fun W => eq_lgR hl hl W true ⟨fun _ => rfl, fun _ => rfl⟩)
  have HIl := Lib.hid (infoLedg9R l hl)
  have HJl := Lib.hid (infoLedg9 l hl)
  have HOl := Lib.hid (lgc_one l)
  have HNl := Lib.hid (show ([.int .u64 0, .int .u64 0, .int .u64 0, .int .u64 0, .int .u64 0, .int .u64 0, .int .u64 0, .int .u64 0, .int .u64 0] : List Value).length = (lgc l).length by rw [lgc_length hl]; rfl)
  have HIX := Lib.hid (infoLedg9R X okX)
  have HJX := Lib.hid (infoLedg9 X okX)
  have HOX := Lib.hid (lgc_one X)
  have HNX := Lib.hid (show ([.int .u64 0, .int .u64 0, .int .u64 0, .int .u64 0, .int .u64 0, .int .u64 0, .int .u64 0, .int .u64 0, .int .u64 0] : List Value).length = (lgc X).length by rw [lgc_length okX]; rfl)
  have HZL := Lib.hid (fun W : World => (show Blk (W.alloc (.cells #[.int .u64 0, .int .u64 0, .int .u64 0, .int .u64 0, .int .u64 0, .int .u64 0, .int .u64 0, .int .u64 0, .int .u64 0] 30)) W.heap.size 30 [.int .u64 0, .int .u64 0, .int .u64 0, .int .u64 0, .int .u64 0, .int .u64 0, .int .u64 0, .int .u64 0, .int .u64 0] from Blk.new W _ _))
  have HZR := Lib.hid (fun W : World => (show Blk (W.alloc (.cells #[.int .u64 0, .int .u64 0, .int .u64 0, .int .u64 0, .int .u64 0, .int .u64 0, .int .u64 0, .int .u64 0, .int .u64 0] 25)) W.heap.size 25 [.int .u64 0, .int .u64 0, .int .u64 0, .int .u64 0, .int .u64 0, .int .u64 0, .int .u64 0, .int .u64 0, .int .u64 0] from Blk.new W _ _))
  have HBw1 := Lib.hid (Blk.new w 25 (lgc l))
  have HLw1 := Lib.hid (bel_new (Below.refl w.heap.size w) (.cells (lgc l).toArray 25))
  have HBAD := Lib.hid hbad
  have HBACK := Lib.hid hback
  clear h1 h2 h3 h4 h5 hX hE hbad hback hpc htc hp hb hb' hl okX
  go_enter Try.func5, Try.ntmps5
  go_wp2_with fail
  generalize (w.alloc (.cells (lgc l).toArray 25)) = w1 at *
  ((with_reducible refine (HA.out w1).mono ?_))
  rintro e w2 ⟨rfl, hb⟩
  have hb9 : Below w1.heap.size w1 w2 := hb
  have HBw2 := Lib.hid (HBw1.out.below hb9)
  have HLw2 := Lib.hid (HLw1.out.trans (hb9.mono HLw1.out.size))
  clear hb9 HBw1 HLw1
  clear hb
  go_wp2_with ((with_reducible refine step_load (o := ⟨some 14, _, _, _, _, _⟩) (x := .tmp 3) ?_ ?_ ?_ HBw2.out Try.underlying25 ?_ HIl.out ?_); (rfl); (rfl); (rfl); (rfl))
  ((with_reducible refine (HT.out w2).mono ?_))
  rintro e w3 ⟨rfl, hb⟩
  have hb9 : Below w2.heap.size w2 w3 := hb
  have HBw3 := Lib.hid (HBw2.out.below hb9)
  have HLw3 := Lib.hid (HLw2.out.trans (hb9.mono HLw2.out.size))
  clear hb9 HBw2 HLw2
  clear hb
  go_wp2_with fail
  ((with_reducible refine (HP.out w3).mono ?_))
  rintro e w4 ⟨rfl, hb⟩
  have hb9 : Below w3.heap.size w3 w4 := hb
  have HBw4 := Lib.hid (HBw3.out.below hb9)
  have HLw4 := Lib.hid (HLw3.out.trans (hb9.mono HLw3.out.size))
  clear hb9 HBw3 HLw3
  clear hb
  go_upto_region 4 with ((with_reducible refine step_store (o := ⟨none, _, _, _, _, _⟩) (vs := lgc X) (ty := 30) (x := .tmp 7) (y := .tmp 19) ?_ ?_ ?_ ?_ (HZL.out _) HJX.out HNX.out HOX.out ?_); (rfl); (rfl); (rfl); (rfl); intro w5 hb5 hg5 hs5)
  have HXw5 := Lib.hid hb5
  have hq5 : Below w4.heap.size w4 w5 := bel_upd (bel_new (Below.refl _ _) _) hg5 (Nat.le_refl _) (Nat.le_refl _)
  clear hb5 hg5 hs5
  have hb9 : Below w4.heap.size w4 w5 := hq5
  have HBw5 := Lib.hid (HBw4.out.below hb9)
  have HLw5 := Lib.hid (HLw4.out.trans (hb9.mono HLw4.out.size))
  clear hb9 HBw4 HLw4
  clear hq5
  generalize w4.heap.size = q5 at *
  by_cases hE : E = 0
  · subst hE
    have e9 := HBACK.out rfl
    have hq9 := HQ.out
    unfold Lgn13 at hq9
    rw [e9] at hq9
    have HQ2 := Lib.hid hq9
    clear e9 hq9
    go_wp2_with ((with_reducible refine step_load (o := ⟨some 27, _, _, _, _, _⟩) (x := .tmp 7) ?_ ?_ ?_ HXw5.out Try.underlying30 ?_ HJX.out ?_); (rfl); (rfl); (rfl); (rfl))
    ((with_reducible refine (HQ2.out w5).mono ?_))
    rintro e w6 ⟨rfl, hb⟩
    have hb9 : Below w5.heap.size w5 w6 := hb
    have HBw6 := Lib.hid (HBw5.out.below hb9)
    have HXw6 := Lib.hid (HXw5.out.below hb9)
    have HLw6 := Lib.hid (HLw5.out.trans (hb9.mono HLw5.out.size))
    clear hb9 HBw5 HXw5 HLw5
    clear hb
    go_upto_region 7 with ((with_reducible refine step_store (o := ⟨none, _, _, _, _, _⟩) (vs := lgc l) (ty := 30) (x := .tmp 9) (y := .tmp 31) ?_ ?_ ?_ ?_ (HZL.out _) HJl.out HNl.out HOl.out ?_); (rfl); (rfl); (rfl); (rfl); intro w7 hb7 hg7 hs7)
    have HYw7 := Lib.hid hb7
    have hq7 : Below w6.heap.size w6 w7 := bel_upd (bel_new (Below.refl _ _) _) hg7 (Nat.le_refl _) (Nat.le_refl _)
    clear hb7 hg7 hs7
    have hb9 : Below w6.heap.size w6 w7 := hq7
    have HBw7 := Lib.hid (HBw6.out.below hb9)
    have HXw7 := Lib.hid (HXw6.out.below hb9)
    have HLw7 := Lib.hid (HLw6.out.trans (hb9.mono HLw6.out.size))
    clear hb9 HBw6 HXw6 HLw6
    clear hq7
    generalize w6.heap.size = q7 at *
    refine region_seq (fun W => Below w7.heap.size w7 W) [(0, true), (1, true), (2, true), (3, true), (5, true), (4, false), (6, true), (7, true), (8, true)]
      (by kernel_rfl) (by kernel_rfl) (by kernel_rfl) (by kernel_rfl) (fun _ _ _ _ _ h => h) (Below.refl _ _).drew ?_
    repeat first
      | refine seq_load8 (x := .tmp 3) rfl (by rfl) rfl rfl (fun W hW => HBw7.out.below hW) Try.underlying25 rfl HIl.out ?_
        simp only [Act.put, List.setIfInBounds_toArray, List.set_cons_zero, List.set_cons_succ]
      | refine seq_load8 (x := .tmp 7) rfl (by rfl) rfl rfl (fun W hW => HXw7.out.below hW) Try.underlying30 rfl HJX.out ?_
        simp only [Act.put, List.setIfInBounds_toArray, List.set_cons_zero, List.set_cons_succ]
      | refine seq_load8 (x := .tmp 9) rfl (by rfl) rfl rfl (fun W hW => HYw7.out.below hW) Try.underlying30 rfl HJl.out ?_
        simp only [Act.put, List.setIfInBounds_toArray, List.set_cons_zero, List.set_cons_succ]
      | refine seq_eqA (c := true) rfl (by rfl) rfl rfl rfl (by kernel_rfl) HEQ.out ?_
        simp only [Act.put, List.setIfInBounds_toArray, List.set_cons_zero, List.set_cons_succ]
      | refine seq_pure (v := ?_) rfl (by rfl) (fun W hW => ?_) ?_
        rotate_left
        · clear hW
          go_simp
          with_reducible rfl
        simp only [Act.put, List.setIfInBounds_toArray, List.set_cons_zero, List.set_cons_succ]
    refine seq_make rfl (by rfl) (fun K hK => ?_)
    go_simp
    have hc := HU.out w7.drew
    ((with_reducible refine hc.mono ?_))
    rintro e w8 ⟨rfl, hb⟩
    have SBw8 := Lib.hid (show Below w7.heap.size w7 w8 from below_of_drew hb)
    clear hc hb
    go_simp
    refine hK _ _ (fun W => Below w7.heap.size w7 W) (fun W h => h) SBw8.out ?_
    clear hK K
    repeat first
      | refine seq_load8 (x := .tmp 3) rfl (by rfl) rfl rfl (fun W hW => HBw7.out.below hW) Try.underlying25 rfl HIl.out ?_
        simp only [Act.put, List.setIfInBounds_toArray, List.set_cons_zero, List.set_cons_succ]
      | refine seq_load8 (x := .tmp 7) rfl (by rfl) rfl rfl (fun W hW => HXw7.out.below hW) Try.underlying30 rfl HJX.out ?_
        simp only [Act.put, List.setIfInBounds_toArray, List.set_cons_zero, List.set_cons_succ]
      | refine seq_load8 (x := .tmp 9) rfl (by rfl) rfl rfl (fun W hW => HYw7.out.below hW) Try.underlying30 rfl HJl.out ?_
        simp only [Act.put, List.setIfInBounds_toArray, List.set_cons_zero, List.set_cons_succ]
      | refine seq_eqA (c := true) rfl (by rfl) rfl rfl rfl (by kernel_rfl) HEQ.out ?_
        simp only [Act.put, List.setIfInBounds_toArray, List.set_cons_zero, List.set_cons_succ]
      | refine seq_pure (v := ?_) rfl (by rfl) (fun W hW => ?_) ?_
        rotate_left
        · clear hW
          go_simp
          with_reducible rfl
        simp only [Act.put, List.setIfInBounds_toArray, List.set_cons_zero, List.set_cons_succ]
    refine seq_done ?_
    have hb9 : Below w7.heap.size w7 w8 := SBw8.out
    have HBw8 := Lib.hid (HBw7.out.below hb9)
    have HXw8 := Lib.hid (HXw7.out.below hb9)
    have HYw8 := Lib.hid (HYw7.out.below hb9)
    have HLw8 := Lib.hid (HLw7.out.trans (hb9.mono HLw7.out.size))
    clear hb9 HBw7 HXw7 HYw7 HLw7
    go_wp2
    go_ret
    exact ⟨rfl, HLw8.out⟩
  · have hz := HBAD.out hE
    have pe : ∀ w, (binOp .eql 30 (.agg (lgc X).toArray) (.agg #[.int .u64 0, .int .u64 0, .int .u64 0, .int .u64 0, .int .u64 0, .int .u64 0, .int .u64 0, .int .u64 0, .int .u64 0])).run Try.prog w = .ok (.bool true) w := by
      rw [hz]
      exact fun w => eq_lgL lz_ok lz_ok w true ⟨fun _ => rfl, fun _ => rfl⟩
    clear hz
    go_wp2_with ((with_reducible refine step_load (o := ⟨some 23, _, _, _, _, _⟩) (x := .tmp 7) ?_ ?_ ?_ HXw5.out Try.underlying30 ?_ HJX.out ?_); (rfl); (rfl); (rfl); (rfl))
    go_ret
    exact ⟨rfl, HLw5.out⟩
end Go.Proofs.Ytpnjjeplgkaaoaa
