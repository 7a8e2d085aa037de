/-
  Contract of package tedb: Encode. Condition: eight numbers of 64 bits; Seq as large as its type allows; at most 2^30 adverts.
-/
import Derived.Test.YtmfmjdkeoiebpaaTecF
namespace Go.Proofs.Ytmfmjdkeoiebpaa
set_option maxRecDepth 100000
set_option linter.unusedVariables false
open Go.RowKit

def En15 (r : List UInt8 × Int) (w : World) (e : Ending) (w' : World) : Prop := ∃ A c, e = .returned (.tuple #[.slice A r.1.length c, .int .i64 r.2]) ∧ Acc w' w.heap.size A c r.1 ∧ Below w.heap.size w w'
theorem all_snoc15 {l : List Ad} {i : Nat} {x : Ad} (hx : l[i]? = some x) (h : (l.take i).all vldA = true) (hv : vldA x = true) : (l.take (i + 1)).all vldA = true := by
  rw [take_snoc15 hx, List.all_append, h]
  simp [hv]
theorem all_bad15 {l : List Ad} {i : Nat} {x : Ad} (hx : l[i]? = some x) (hv : vldA x = false) : l.all vldA = false := by
  rw [List.all_eq_false]
  exact ⟨x, List.mem_of_getElem? hx, by rw [hv]; decide⟩
set_option maxHeartbeats 6400000 in
theorem encode15c_calls (a : Option Addr) (n c : Nat) (l : List Ad) (hok : ∀ x ∈ l, AdOk x ∧ I15 x.q) (w : World) (hr : Row adc w w.heap.size a n l) (hn : n ≤ 1073741824) : Calls Try.prog 23 #[.slice a n c] w (En15 (aEnc l) w) := by
  have HR := Lib.hid hr
  have HN := Lib.hid (And.intro hr.1 hn)
  have HOK := Lib.hid hok
  obtain ⟨r, hre⟩ : ∃ r, aEnc l = r := ⟨_, rfl⟩
  rw [hre]
  have HRE := Lib.hid hre
  have HIN := Lib.hid (fun x : Ad => (show (Try.prog.info? 40).map (·.size) = some (adc x).length from infoAdTS15))
  have hn63 : (n : Int) ≤ 1073741824 := by omega
  clear hr hok hre
  by_cases h64 : 64 < n
  · have h64' : (64 : Int) < (n : Int) := by omega
    have hr2 : r = ([], 3) := by
      rw [← HRE.out]; unfold aEnc; rw [if_pos (by rw [HN.out.1]; exact h64)]
    subst hr2
    clear h64
    go_enter Try.func23, Try.ntmps23
    go_wp2_with fail
    refine bodyPost_ret (v := .tuple #[.slice none 0 0, .int .i64 3]) (by simp [results, Try.results23, go_sem]) rfl ?_
    exact ⟨none, 0, rfl, Acc.nil _ _, Below.refl _ _⟩
  · have h64' : ¬ (64 : Int) < (n : Int) := by omega
    have H64 := Lib.hid h64
    clear h64
    go_enter Try.func23, Try.ntmps23
    go_wp2_with fail
    go_loopw [4, 12] (fun s t W => ∃ (i c1 m : Nat) (A : Option Addr), s = .slice A m c1 ∧ t = .int .i64 (i : Int) ∧ i ≤ n ∧ m = (adsB (l.take i)).length ∧ Acc W w.heap.size A c1 (adsB (l.take i)) ∧ (l.take i).all vldA = true ∧ Below w.heap.size w W) (fun s t W => n - (intOf t).toNat)
    case atStart => exact ⟨0, 0, 0, none, rfl, rfl, Nat.zero_le _, rfl, Acc.nil _ _, rfl, Below.refl _ _⟩
    case round =>
      obtain ⟨i, c1, m, A, rfl, rfl, hin, hm, ha, hv, hb⟩ := hrel
      have HAC := Lib.hid ha
      have HM := Lib.hid hm
      have HV := Lib.hid hv
      have HBL := Lib.hid hb
      clear ha hm hv hb
      by_cases hin2 : i < n
      · have i1 : (i : Int) < (n : Int) := by omega
        have HII := Lib.hid hin2
        obtain ⟨b, o, x, rfl, hx, hb, hc⟩ := range15 HR.out hin2
        have hxo := HOK.out x (List.mem_of_getElem? hx)
        have HXO := Lib.hid hxo
        have HX := Lib.hid hx
        have HC := Lib.hid (hc wr HBL.out)
        have hbz := bel_new (Below.refl wr.heap.size wr) (.cells #[.int .i64 0, .int .i64 0, .int .u64 0, .int .i64 0, .int .u32 0, .int .i64 0, .bool false, .int .u64 0, .int .u64 0, .int .u64 0, .int .u64 0, .int .u64 0, .int .u64 0, .int .u64 0, .int .u64 0] 40)
        have BZ := Lib.hid (show Blk (wr.alloc (.cells #[.int .i64 0, .int .i64 0, .int .u64 0, .int .i64 0, .int .u32 0, .int .i64 0, .bool false, .int .u64 0, .int .u64 0, .int .u64 0, .int .u64 0, .int .u64 0, .int .u64 0, .int .u64 0, .int .u64 0] 40)) wr.heap.size 40 zr15 from Blk.new wr _ zr15)
        have AZ := Lib.hid (HAC.out.bel hbz)
        have LZ := Lib.hid (HBL.out.trans (hbz.mono HBL.out.size))
        have QZ := Lib.hid HBL.out.size
        have RZ := Lib.hid (show ∀ g, blk A = some g → g < wr.heap.size from fun g hg => (HAC.out.ge hg).2)
        clear hx hb hc hin hin2 hbz HAC HBL hxo
        go_upto_region 7 with (first | (refine step_load_at (o := ⟨some 15, _, _, _, _, _⟩) rfl rfl rfl HC.out Try.underlying40 rfl (HIN.out _) ?_) | ((with_reducible refine step_store (o := ⟨none, _, _, _, _, _⟩) (vs := adc x) (ty := 40) (x := .tmp 6) (y := .tmp 15) ?_ ?_ ?_ ?_ BZ.out (HIN.out _) rfl (adc_one _) ?_); (rfl); (rfl); (rfl); (rfl); intro w5 hb5 hg5 hs5))
        have B5 := Lib.hid hb5
        have L5 := Lib.hid (bel_upd LZ.out hg5 (Nat.le_refl _) QZ.out)
        have A5 := Lib.hid (AZ.out.kept hg5 (.inr (fun e => by have := RZ.out _ e; omega)))
        clear hb5 hg5 hs5 BZ LZ AZ HC
        generalize wr.heap.size = q5 at *
        have hmay := may15c_calls x HXO.out.1 HXO.out.2 w5
        obtain ⟨d, hd⟩ : ∃ d, vldA x = d := ⟨_, rfl⟩
        rw [hd] at hmay
        unfold Yes15 at hmay
        have HD := Lib.hid hd
        have HMAY := Lib.hid hmay
        clear hd hmay
        go_wp2_with (refine step_load (o := ⟨some 16, _, _, _, _, _⟩) rfl rfl rfl B5.out Try.underlying40 rfl (HIN.out _) ?_)
        ((with_reducible refine HMAY.out.mono ?_))
        rintro e w6 ⟨rfl, hb⟩
        have B6 := Lib.hid (B5.out.below hb)
        have A6 := Lib.hid (A5.out.bel hb)
        have L6 := Lib.hid (L5.out.trans (hb.mono L5.out.size))
        clear hb B5 A5 L5 HMAY
        cases d with
        | false =>
          have hr2 : r = ([], 2) := by
            rw [← HRE.out]; unfold aEnc
            rw [if_neg (by rw [HN.out.1]; exact H64.out), if_neg (by rw [all_bad15 HX.out HD.out]; decide)]
          subst hr2
          go_wp2_with fail
          refine bodyPost_ret (v := .tuple #[.slice none 0 0, .int .i64 2]) (by simp [results, Try.results23, go_sem]) rfl ?_
          exact ⟨none, 0, rfl, Acc.nil _ _, L6.out⟩
        | true =>
          have HWR := Lib.hid (write15_calls x HXO.out.1 HD.out w6)
          go_wp2_with (refine step_load (o := ⟨some 20, _, _, _, _, _⟩) rfl rfl rfl B6.out Try.underlying40 rfl (HIN.out _) ?_)
          ((with_reducible refine HWR.out.mono ?_))
          rintro e w7 ⟨g, rfl, hacc, hb⟩
          have hlx : (adB x).length = 88 := adB_length HXO.out.1
          have A7 := A6.out.bel hb
          have L7 := L6.out.trans (hb.mono L6.out.size)
          have hbts : Bts w7 w7.heap.size (some ⟨g, 0, none⟩) 88 (adB x) := by
            have : Acc w7 w6.heap.size (some ⟨g, 0, none⟩) 88 (adB x) := hacc
            have := this.bts
            rwa [hlx] at this
          have hml : m ≤ 88 * n := by
            rw [HM.out, adsB_length (fun y hy => (HOK.out y (List.mem_of_mem_take hy)).1), List.length_take]
            have := HN.out.1
            omega
          obtain ⟨A8, c8, w8, r8, a8, g8, _⟩ := acc_append (cc := 88) A7 hbts L7.size (by rw [← HM.out]; omega) 52
          rw [← HM.out] at r8
          rw [← adsB_snoc, ← take_snoc15 HX.out] at a8
          have B8 := Lib.hid (show Below w.heap.size w w8 from bel_acc L7 A7 g8)
          have A8' := Lib.hid a8
          have R8 := Lib.hid r8
          have M8 := Lib.hid (show m + 88 = (adsB (l.take (i + 1))).length by rw [take_snoc15 HX.out, adsB_snoc, List.length_append, hlx, HM.out])
          have V8 := Lib.hid (all_snoc15 HX.out HV.out HD.out)
          clear hacc hb hlx A7 L7 hbts hml r8 a8 g8 HWR A6 L6 B6
          go_wp2_with (at_builtin; refine step_append rfl rfl rfl rfl R8.out ?_)
          go_roundw
          case rel => exact ⟨i + 1, c8, m + 88, A8, by first | rfl | (simp; omega), by first | rfl | (simp; omega), HII.out, M8.out, A8'.out, V8.out, B8.out⟩
          case measure => have := HII.out; simp [intOf]; omega
      · obtain rfl : i = n := by omega
        have i1 : ¬ (i : Int) < (i : Int) := by omega
        have htk : l.take i = l := List.take_of_length_le (by rw [HN.out.1]; exact Nat.le_refl _)
        have hr2 : r = (adsB l, 0) := by
          rw [← HRE.out]; unfold aEnc
          have := HV.out
          rw [htk] at this
          rw [if_neg (by rw [HN.out.1]; exact H64.out), if_pos this]
        subst hr2
        have hac := HAC.out
        have hm := HM.out
        rw [htk] at hac hm
        have HAC2 := Lib.hid hac
        have HM2 := Lib.hid hm
        clear hin hin2 hac hm htk
        go_wp2_with fail
        refine bodyPost_ret (v := .tuple #[.slice A m c1, .int .i64 0]) (by simp [results, Try.results23, go_sem]) rfl ?_
        exact ⟨A, c1, by rw [HM2.out], HAC2.out, HBL.out⟩
end Go.Proofs.Ytmfmjdkeoiebpaa
