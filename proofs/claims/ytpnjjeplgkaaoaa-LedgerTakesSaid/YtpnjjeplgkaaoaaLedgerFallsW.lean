/-
  The law LedgerFalls, walked, under what the code must keep: the answer is true, and nothing that was there has turned. Condition: numbers of 64 bits.
-/
import Derived.Test.YtpnjjeplgkaaoaaLedgC
namespace Go.Proofs.Ytpnjjeplgkaaoaa
set_option maxRecDepth 100000
set_option linter.unusedVariables false
open Go.RowKit

theorem hlc_get {h : List Nat} (hl : h.length = 8) {i : Nat} (hi : i < 8) : (hlc h)[i]? = some (.int .u64 ((h.getD i 0 : Nat) : Int)) := by
  unfold hlc
  rw [List.getElem?_map, List.getD_eq_getElem?_getD, List.getElem?_eq_getElem (by rw [hl]; exact hi)]
  rfl

set_option maxHeartbeats 1600000 in
theorem lfalls_walk (h1 : AddOk13) (h2 : RightOk13) (h3 : FreeOk13) (h4 : PutOk13) (h6 : SumOk13) (l : Lg) (hl : LgOk l) (w : World) : Calls Try.prog 6 #[.agg (lgc l).toArray] w fun e w' => e = .returned (.bool true) ∧ Below w.heap.size w w' := by
  have k3 := h6 l hl
  have k5 := h2 l hl
  have k7 := h3 l hl
  unfold Two13 at k3
  have hcap := hl.2.1
  have hfall := fun p hp => lFree_le l (p := p) hp
  have hlast := lFree_last hl
  have hbnd := lFree_bound l 0
  have hflF := lFree_length l
  obtain ⟨F, hF⟩ : ∃ F, lFree l = F := ⟨_, rfl⟩
  rw [hF] at k7 hflF hlast hbnd
  have hfall : ∀ p, p + 1 < 8 → F.getD (p + 1) 0 ≤ F.getD p 0 := by rw [← hF]; exact hfall
  obtain ⟨R, hR⟩ : ∃ R, lRight l = R := ⟨_, rfl⟩
  rw [hR] at k5
  have hsum : R = true → decide (l.held.sum < 18446744073709551616) = true ∧ IntKind.u64.wrap ((l.cap : Int) - ((aS l.held.sum : Nat) : Int)) = ((F.getD 7 0 : Nat) : Int) := by
    intro h
    rw [h] at hR
    have h8 : l.held.sum ≤ l.cap := of_decide_eq_true hR
    have h9 : l.held.sum < 18446744073709551616 := by omega
    refine ⟨decide_eq_true h9, ?_⟩
    unfold aS
    rw [if_pos h9, hlast, IntKind.wrap_u64]
    omega
  obtain ⟨S, hS⟩ : ∃ S, aS l.held.sum = S := ⟨_, rfl⟩
  obtain ⟨U, hU⟩ : ∃ U, decide (l.held.sum < 18446744073709551616) = U := ⟨_, rfl⟩
  rw [hS, hU] at k3 hsum
  have HA := Lib.hid (fun W => alive13_calls h1 h2 h3 h4 W)
  have HT := Lib.hid (fun W => theirs13_calls l hl W)
  unfold Agg13 at HT
  have K3 := Lib.hid k3
  have K5 := Lib.hid k5
  have K7 := Lib.hid k7
  have HFALL := Lib.hid hfall
  have HSUM := Lib.hid hsum
  have HBND := Lib.hid hbnd
  have HG := Lib.hid (fun i hi => hlc_get hflF (i := i) hi)
  have HIl := Lib.hid (infoLedg9R l hl)
  have HJl := Lib.hid (infoLedg9 l hl)
  have HOl := Lib.hid (lgc_one l)
  have HNl := Lib.hid (show ([.int .u64 0, .int .u64 0, .int .u64 0, .int .u64 0, .int .u64 0, .int .u64 0, .int .u64 0, .int .u64 0, .int .u64 0] : List Value).length = (lgc l).length by rw [lgc_length hl]; rfl)
  have HIF := Lib.hid (show (Try.prog.info? 23).map (·.size) = some (hlc F).length by rw [hlc_length, hflF]; exact infoArrR)
  have HOF := Lib.hid (hlc_one F)
  have HNF := Lib.hid (show ([.int .u64 0, .int .u64 0, .int .u64 0, .int .u64 0, .int .u64 0, .int .u64 0, .int .u64 0, .int .u64 0] : List Value).length = (hlc F).length by rw [hlc_length, hflF]; rfl)
  have HZA := Lib.hid (fun W : World => (show Blk (W.alloc (.cells #[.int .u64 0, .int .u64 0, .int .u64 0, .int .u64 0, .int .u64 0, .int .u64 0, .int .u64 0, .int .u64 0] 23)) W.heap.size 23 [.int .u64 0, .int .u64 0, .int .u64 0, .int .u64 0, .int .u64 0, .int .u64 0, .int .u64 0, .int .u64 0] from Blk.new W _ _))
  have HBw1 := Lib.hid (Blk.new w 25 (lgc l))
  have HLw1 := Lib.hid (bel_new (Below.refl w.heap.size w) (.cells (lgc l).toArray 25))
  clear h1 h2 h3 h4 h6 hF hR hS hU hlast hflF hcap hfall hsum hbnd k3 k5 k7 hl
  go_enter Try.func6, Try.ntmps6
  go_wp2_with fail
  generalize (w.alloc (.cells (lgc l).toArray 25)) = w1 at *
  ((with_reducible refine (HA.out w1).mono ?_))
  rintro e w2 ⟨rfl, hb⟩
  have hb9 : Below w1.heap.size w1 w2 := hb
  have HBw2 := Lib.hid (HBw1.out.below hb9)
  have HLw2 := Lib.hid (HLw1.out.trans (hb9.mono HLw1.out.size))
  clear hb9 HBw1 HLw1
  clear hb
  go_wp2_with ((with_reducible refine step_load (o := ⟨some 9, _, _, _, _, _⟩) (x := .tmp 1) ?_ ?_ ?_ HBw2.out Try.underlying25 ?_ HIl.out ?_); (rfl); (rfl); (rfl); (rfl))
  ((with_reducible refine (HT.out w2).mono ?_))
  rintro e w3 ⟨rfl, hb⟩
  have hb9 : Below w2.heap.size w2 w3 := hb
  have HBw3 := Lib.hid (HBw2.out.below hb9)
  have HLw3 := Lib.hid (HLw2.out.trans (hb9.mono HLw2.out.size))
  clear hb9 HBw2 HLw2
  clear hb
  go_wp2_with fail
  ((with_reducible refine (K7.out w3).mono ?_))
  rintro e w4 ⟨rfl, hb⟩
  have hb9 : Below w3.heap.size w3 w4 := hb
  have HBw4 := Lib.hid (HBw3.out.below hb9)
  have HLw4 := Lib.hid (HLw3.out.trans (hb9.mono HLw3.out.size))
  clear hb9 HBw3 HLw3
  clear hb
  go_upto_region 4 with ((with_reducible refine step_store (o := ⟨none, _, _, _, _, _⟩) (vs := hlc F) (ty := 23) (x := .tmp 3) (y := .tmp 11) ?_ ?_ ?_ ?_ (HZA.out _) HIF.out HNF.out HOF.out ?_); (rfl); (rfl); (rfl); (rfl); intro w5 hb5 hg5 hs5)
  have HXw5 := Lib.hid hb5
  have hq5 : Below w4.heap.size w4 w5 := bel_upd (bel_new (Below.refl _ _) _) hg5 (Nat.le_refl _) (Nat.le_refl _)
  clear hb5 hg5 hs5
  have hb9 : Below w4.heap.size w4 w5 := hq5
  have HBw5 := Lib.hid (HBw4.out.below hb9)
  have HLw5 := Lib.hid (HLw4.out.trans (hb9.mono HLw4.out.size))
  clear hb9 HBw4 HLw4
  clear hq5
  generalize w4.heap.size = q5 at *
  go_wp2_with fail
  go_loopw [4] (fun t W => ∃ i : Nat, 1 ≤ i ∧ i ≤ 8 ∧ t = .int .i64 (i : Int) ∧ Blk W w.heap.size 25 (lgc l) ∧ Blk W q5 23 (hlc F) ∧ Below w.heap.size w W) (fun t W => 8 - (intOf t).toNat)
  case atStart => exact ⟨1, by omega, by omega, rfl, HBw5.out, HXw5.out, HLw5.out⟩
  case round =>
    obtain ⟨i, hi1, hi, rfl, hb, hx, hbl⟩ := hrel
    have HBwr := Lib.hid hb
    have HXwr := Lib.hid hx
    have HLwr := Lib.hid hbl
    clear hb hx hbl
    by_cases hi8 : i < 8
    · obtain ⟨k, rfl⟩ : ∃ k, i = k + 1 := ⟨i - 1, by omega⟩
      have i1 : ((k + 1 : Nat) : Int) < 8 := by omega
      have i2 : IntKind.i64.wrap (((k + 1 : Nat) : Int) - 1) = (k : Int) := by rw [IntKind.wrap_i64] <;> omega
      have i3 : (k : Int) < 8 := by omega
      have hle := HFALL.out k hi8
      have g1 := HG.out (k + 1) hi8
      have g0 := HG.out k (by omega)
      obtain ⟨a, ha⟩ : ∃ a, F.getD (k + 1) 0 = a := ⟨_, rfl⟩
      obtain ⟨b, hb⟩ : ∃ b, F.getD k 0 = b := ⟨_, rfl⟩
      rw [ha] at g1 hle
      rw [hb] at g0 hle
      have hn : ¬ (b : Int) < (a : Int) := by omega
      obtain ⟨n, hn1⟩ : ∃ n : Nat, k + 1 = n := ⟨_, rfl⟩
      rw [hn1] at i1 i2 g1 hi8 hi hi1 ⊢
      have c1 : wr.drew.cell? ⟨q5, n, none⟩ = some (.int .u64 (a : Int)) := (HXwr.out.cell _).trans g1
      have c0 : wr.drew.cell? ⟨q5, k, none⟩ = some (.int .u64 (b : Int)) := (HXwr.out.cell _).trans g0
      have HI := Lib.hid (And.intro hi8 hn1)
      have HC := Lib.hid (And.intro c1 c0)
      have HN := Lib.hid hn
      clear ha hb hn g1 g0 hle hi8 hn1 hi hi1 c1 c0
      go_wp2_with fail
      refine region_seq (fun W => W.cell? ⟨q5, n, none⟩ = some (.int .u64 (a : Int)) ∧ W.cell? ⟨q5, k, none⟩ = some (.int .u64 (b : Int))) [(0, true), (1, true), (2, true), (3, true), (4, true), (5, true), (6, true), (7, true)]
        (by kernel_rfl) (by kernel_rfl) (by kernel_rfl) (by kernel_rfl) (fun _ _ _ _ _ h => h) HC.out ?_
      repeat
        refine seq_pure (v := ?_) rfl (by rfl) (fun W hW => ?_) ?_
        rotate_left
        · obtain ⟨c1, c0⟩ := hW
          go_simp
          with_reducible rfl
        simp only [Act.put, List.setIfInBounds_toArray, List.set_cons_zero, List.set_cons_succ]
      refine seq_done ?_
      have hn : ¬ b < a := by have := HN.out; omega
      have hi9 := HI.out.2
      go_wp2_with fail
      go_roundw
      case rel => exact ⟨n + 1, by omega, by have := HI.out.1; omega, by first | rfl | (simp; omega), HBwr.out, HXwr.out, HLwr.out.drew⟩
      case measure => have := HI.out.1; simp [intOf]; omega
    · obtain rfl : i = 8 := by omega
      have i1 : ¬ ((8 : Nat) : Int) < 8 := by omega
      have g0 := HG.out 0 (by omega)
      have g7 := HG.out 7 (by omega)
      have hb0 := HBND.out
      have hsm := HSUM.out
      obtain ⟨a, ha⟩ : ∃ a, F.getD 0 0 = a := ⟨_, rfl⟩
      obtain ⟨b, hb⟩ : ∃ b, F.getD 7 0 = b := ⟨_, rfl⟩
      rw [ha] at g0 hb0
      rw [hb] at g7 hsm
      have hn : ¬ l.cap < a := by omega
      have c0 : wr.cell? ⟨q5, 0, none⟩ = some (.int .u64 (a : Int)) := (HXwr.out.cell _).trans g0
      have cc : wr.cell? ⟨w.heap.size, 0, none⟩ = some (.int .u64 (l.cap : Int)) := (HBwr.out.cell 0).trans (lgc_cap l)
      have HC := Lib.hid (fun (W : World) (h : Blk W q5 23 (hlc F)) => (h.cell 7).trans g7)
      have HSM := Lib.hid hsm
      clear ha hb g0 g7 hb0 hsm hi8 hi hi1
      go_wp2_with ((with_reducible refine step_load (o := ⟨some 30, _, _, _, _, _⟩) (x := .tmp 1) ?_ ?_ ?_ HBwr.out Try.underlying25 ?_ HIl.out ?_); (rfl); (rfl); (rfl); (rfl))
      clear c0 cc
      ((with_reducible refine (HT.out wr).mono ?_))
      rintro e w6 ⟨rfl, hb⟩
      have hb9 : Below wr.heap.size wr w6 := hb
      have HBw6 := Lib.hid (HBwr.out.below hb9)
      have HXw6 := Lib.hid (HXwr.out.below hb9)
      have HLw6 := Lib.hid (HLwr.out.trans (hb9.mono HLwr.out.size))
      clear hb9 HBwr HXwr HLwr
      clear hb
      go_wp2_with fail
      ((with_reducible refine (K3.out w6).mono ?_))
      rintro e w7 ⟨rfl, hb⟩
      have hb9 : Below w6.heap.size w6 w7 := hb
      have HBw7 := Lib.hid (HBw6.out.below hb9)
      have HXw7 := Lib.hid (HXw6.out.below hb9)
      have HLw7 := Lib.hid (HLw6.out.trans (hb9.mono HLw6.out.size))
      clear hb9 HBw6 HXw6 HLw6
      clear hb
      go_wp2_with ((with_reducible refine step_load (o := ⟨some 35, _, _, _, _, _⟩) (x := .tmp 1) ?_ ?_ ?_ HBw7.out Try.underlying25 ?_ HIl.out ?_); (rfl); (rfl); (rfl); (rfl))
      ((with_reducible refine (HT.out w7).mono ?_))
      rintro e w8 ⟨rfl, hb⟩
      have hb9 : Below w7.heap.size w7 w8 := hb
      have HBw8 := Lib.hid (HBw7.out.below hb9)
      have HXw8 := Lib.hid (HXw7.out.below hb9)
      have HLw8 := Lib.hid (HLw7.out.trans (hb9.mono HLw7.out.size))
      clear hb9 HBw7 HXw7 HLw7
      clear hb
      go_wp2_with fail
      ((with_reducible refine (K5.out w8).mono ?_))
      rintro e w9 ⟨rfl, hb⟩
      have hb9 : Below w8.heap.size w8 w9 := hb
      have HBw9 := Lib.hid (HBw8.out.below hb9)
      have HXw9 := Lib.hid (HXw8.out.below hb9)
      have HLw9 := Lib.hid (HLw8.out.trans (hb9.mono HLw8.out.size))
      clear hb9 HBw8 HXw8 HLw8
      clear hb
      cases R with
      | false =>
        go_wp2_with fail
        go_ret
        exact ⟨rfl, HLw9.out⟩
      | true =>
        obtain ⟨hu, hs⟩ := HSM.out rfl
        subst hu
        have c7 : w9.cell? ⟨q5, 7, none⟩ = some (.int .u64 (b : Int)) := HC.out _ HXw9.out
        have cc : w9.cell? ⟨w.heap.size, 0, none⟩ = some (.int .u64 (l.cap : Int)) := (HBw9.out.cell 0).trans (lgc_cap l)
        go_wp2_with fail
        go_ret
        exact ⟨rfl, HLw9.out⟩
end Go.Proofs.Ytpnjjeplgkaaoaa
