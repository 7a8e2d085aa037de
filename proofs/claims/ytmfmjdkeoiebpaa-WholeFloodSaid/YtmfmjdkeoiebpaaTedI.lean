/-
  The document's Encode (viaductref15). Condition: eight numbers of 64 bits; fewer than 2^30 adverts.
-/
import Derived.Test.YtmfmjdkeoiebpaaTedH
namespace Go.Proofs.Ytmfmjdkeoiebpaa
set_option maxRecDepth 100000
set_option linter.unusedVariables false
open Go.RowKit

set_option maxHeartbeats 3200000 in
theorem rencode15_calls (a : Option Addr) (n c : Nat) (l : List Ad) (hok : ∀ x ∈ l, AdOk x) (w : World) (hr : Row adc w w.heap.size a n l) (hn : n ≤ 1073741824) : Calls Try.prog 25 #[.slice a n c] w (En15 (aEnc l) w) := by
  have HR := Lib.hid hr
  have HN := Lib.hid (And.intro hr.1 hn)
  have HOK := Lib.hid hok
  obtain ⟨r, hre⟩ : ∃ r, aEnc l = r := ⟨_, rfl⟩
  rw [hre]
  have HRE := Lib.hid hre
  have HIN := Lib.hid (fun x : Ad => (show (Try.prog.info? 42).map (·.size) = some (adc x).length from infoAdS15))
  have hn63 : (n : Int) ≤ 1073741824 := by omega
  clear hr hok hre
  by_cases h64 : 64 < n
  · have h64' : (64 : Int) < (n : Int) := by omega
    have hr2 : r = ([], 3) := by
      rw [← HRE.out]; unfold aEnc; rw [if_pos (by rw [HN.out.1]; exact h64)]
    subst hr2
    clear h64
    go_enter Try.func25, Try.ntmps25
    go_wp2_with fail
    refine bodyPost_ret (v := .tuple #[.slice none 0 0, .int .i64 3]) (by simp [results, Try.results25, go_sem]) rfl ?_
    exact ⟨none, 0, rfl, Acc.nil _ _, Below.refl _ _⟩
  · have h64' : ¬ (64 : Int) < (n : Int) := by omega
    have H64 := Lib.hid h64
    clear h64
    go_enter Try.func25, Try.ntmps25
    go_wp2_with fail
    go_loopw [4, 5] (fun s t W => ∃ (i c1 m : Nat) (A : Option Addr), s = .slice A m c1 ∧ t = .int .i64 (i : Int) ∧ i ≤ n ∧ m = (adsB (l.take i)).length ∧ Acc W w.heap.size A c1 (adsB (l.take i)) ∧ (l.take i).all vldA = true ∧ Below w.heap.size w W) (fun s t W => n - (intOf t).toNat)
    case atStart => exact ⟨0, 0, 0, none, rfl, rfl, Nat.zero_le _, rfl, Acc.nil _ _, rfl, Below.refl _ _⟩
    case round =>
      obtain ⟨i, c1, m, A, rfl, rfl, hin, hm, ha, hv, hb⟩ := hrel
      have HAC := Lib.hid ha
      have HM := Lib.hid hm
      have HV := Lib.hid hv
      have HBL := Lib.hid hb
      clear ha hm hv hb
      by_cases hin2 : i < n
      · have i1 : (i : Int) < (n : Int) := by omega
        have HII := Lib.hid hin2
        obtain ⟨b, o, x, rfl, hx, hb, hc⟩ := range15 HR.out hin2
        have HXO := Lib.hid (HOK.out x (List.mem_of_getElem? hx))
        have HX := Lib.hid hx
        have HC := Lib.hid hc
        have hmay := rmay15_calls x HXO.out wr
        obtain ⟨d, hd⟩ : ∃ d, vldA x = d := ⟨_, rfl⟩
        unfold May15 at hmay
        rw [hd] at hmay
        have HD := Lib.hid hd
        have HMAY := Lib.hid hmay
        clear hx hb hc hin hin2 hd hmay
        go_wp2_with (refine step_load_at (o := ⟨some 18, _, _, _, _, _⟩) rfl rfl rfl (HC.out wr HBL.out) Try.underlying42 rfl (HIN.out _) ?_)
        ((with_reducible refine HMAY.out.mono ?_))
        rintro e w6 ⟨rfl, hb⟩
        have A6 := Lib.hid (HAC.out.bel hb)
        have L6 := Lib.hid (HBL.out.trans (hb.mono HBL.out.size))
        clear hb HAC HBL HMAY
        cases d with
        | false =>
          have hr2 : r = ([], 2) := by
            rw [← HRE.out]; unfold aEnc
            rw [if_neg (by rw [HN.out.1]; exact H64.out), if_neg (by rw [all_bad15 HX.out HD.out]; decide)]
          subst hr2
          go_wp2_with fail
          refine bodyPost_ret (v := .tuple #[.slice none 0 0, .int .i64 2]) (by simp [results, Try.results25, go_sem]) rfl ?_
          exact ⟨none, 0, rfl, Acc.nil _ _, L6.out⟩
        | true =>
          have HWR := Lib.hid (rbytes15_calls x HXO.out HD.out w6)
          go_wp2_with (refine step_load_at (o := ⟨some 25, _, _, _, _, _⟩) rfl rfl rfl (HC.out w6 L6.out) Try.underlying42 rfl (HIN.out _) ?_)
          ((with_reducible refine HWR.out.mono ?_))
          rintro e w7 ⟨G, cg, rfl, hacc, hb⟩
          have hlx : (adB x).length = 88 := adB_length HXO.out
          have A7 := A6.out.bel hb
          have L7 := L6.out.trans (hb.mono L6.out.size)
          have hml : m ≤ 88 * n := by
            rw [HM.out, adsB_length (fun y hy => HOK.out y (List.mem_of_mem_take hy)), List.length_take]
            have := HN.out.1
            omega
          obtain ⟨A8, c8, w8, r8, a8, g8⟩ := app15 (m := m) (n := 88) (k := m + 88) A7 HM.out.symm hacc hlx rfl L7.size (by omega)
          rw [← adsB_snoc, ← take_snoc15 HX.out] at a8
          have B8 := Lib.hid (show Below w.heap.size w w8 from bel_acc L7 A7 g8)
          have A8' := Lib.hid a8
          have R8 := Lib.hid r8
          have M8 := Lib.hid (show m + 88 = (adsB (l.take (i + 1))).length by rw [take_snoc15 HX.out, adsB_snoc, List.length_append, hlx, HM.out])
          have V8 := Lib.hid (all_snoc15 HX.out HV.out HD.out)
          clear hacc hb hlx A7 L7 hml r8 a8 g8 HWR A6 L6
          go_wp2_with (at_builtin; refine step_append rfl rfl rfl rfl R8.out ?_)
          go_roundw
          case rel => exact ⟨i + 1, c8, m + 88, A8, by first | rfl | (simp; omega), by first | rfl | (simp; omega), HII.out, M8.out, A8'.out, V8.out, B8.out⟩
          case measure => have := HII.out; simp [intOf]; omega
      · obtain rfl : i = n := by omega
        have i1 : ¬ (i : Int) < (i : Int) := by omega
        have htk : l.take i = l := List.take_of_length_le (by rw [HN.out.1]; exact Nat.le_refl _)
        have hr2 : r = (adsB l, 0) := by
          rw [← HRE.out]; unfold aEnc
          have := HV.out
          rw [htk] at this
          rw [if_neg (by rw [HN.out.1]; exact H64.out), if_pos this]
        subst hr2
        have hac := HAC.out
        have hm := HM.out
        rw [htk] at hac hm
        have HAC2 := Lib.hid hac
        have HM2 := Lib.hid hm
        clear hin hin2 hac hm htk
        go_wp2_with fail
        refine bodyPost_ret (v := .tuple #[.slice A m c1, .int .i64 0]) (by simp [results, Try.results25, go_sem]) rfl ?_
        exact ⟨A, c1, by rw [HM2.out], HAC2.out, HBL.out⟩
end Go.Proofs.Ytmfmjdkeoiebpaa
