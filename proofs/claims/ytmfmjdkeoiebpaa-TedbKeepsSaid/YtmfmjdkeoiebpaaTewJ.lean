/-
  The law TedbKeeps, walked: for any network, any adverts and any last one the answer is true, and nothing that was there has turned. Condition: numbers as large as their types allow.
-/
import Derived.Test.YtmfmjdkeoiebpaaTewC
import Derived.Test.YtmfmjdkeoiebpaaTedOpen
import Derived.Test.YtmfmjdkeoiebpaaTedK
import Derived.Test.YtmfmjdkeoiebpaaGraphJ
namespace Go.Proofs.Ytmfmjdkeoiebpaa
set_option maxRecDepth 100000
set_option linter.unusedVariables false
open Go.RowKit

/-- Two adverts of the code are compared. -/
theorem eq_adT15 {x y : Ad} (hx : AdOk x) (hy : AdOk y) (w : World) : (binOp .eql 40 (.agg (adc x).toArray) (.agg (adc y).toArray)).run Try.prog w = .ok (.bool (decide (x = y))) w ∧
    (binOp .neq 40 (.agg (adc x).toArray) (.agg (adc y).toArray)).run Try.prog w = .ok (.bool (!decide (x = y))) w :=
  eql_E (xs := adc x) (ys := adc y) (la := adc x) (lb := adc y) (m := 5) (D := 5) (by decide) (by kernel_rfl) (by rfl) (by rfl) (by rfl) (by rfl) w (decide (x = y)) (by rw [decide_eq_true_eq]; exact ⟨fun h => by rw [h], fun h => adc_inj hx hy h⟩)
set_option maxHeartbeats 12800000 in
theorem keeps15_walk (n : Int) (a : Option Addr) (m c : Nat) (w : World) (hk : I15 n ∧ m ≤ maxLen ∧ ∃ es, Row lkc w w.heap.size a m es ∧ ∀ x ∈ es, LkB x) (a1 : Option Addr) (n1 c1 : Nat) (h1 : n1 ≤ maxLen) (ho : ∃ l, Row adc w w.heap.size a1 n1 l ∧ ∀ x ∈ l, AdOk x ∧ I15 x.q) (x2 : Ad) (hx2 : AdOk x2 ∧ I15 x2.q) :
    Calls Try.prog 9 #[.agg #[.int .i64 n, .slice a m c], .slice a1 n1 c1, .agg (adc x2).toArray] w fun e w' => e = .returned (.bool true) ∧ Below w.heap.size w w' := by
  obtain ⟨hI, hm, L, hrl, hlb⟩ := hk
  obtain ⟨l, hr, hok⟩ := ho
  have HRL := Lib.hid hrl
  have HLB := Lib.hid hlb
  have HI := Lib.hid hI
  unfold maxLen at hm
  have HR := Lib.hid hr
  have HOK := Lib.hid hok
  have HX2 := Lib.hid hx2
  unfold maxLen at h1
  clear hr hok hx2
  have hl0 := bel_new (Below.refl w.heap.size w) (.cells #[.int .i64 n, .slice a m c] 24)
  have AB1 := Lib.hid (show Blk ((w.alloc (.cells #[.int .i64 n, .slice a m c] 24)).alloc (.cells (adc x2).toArray 42)) (w.heap.size + 1) 42 (adc x2) from by have := Blk.new (w.alloc (.cells #[.int .i64 n, .slice a m c] 24)) 42 (adc x2); simpa using this)
  have NB1 := Lib.hid (show Blk ((w.alloc (.cells #[.int .i64 n, .slice a m c] 24)).alloc (.cells (adc x2).toArray 42)) w.heap.size 24 [.int .i64 n, .slice a m c] from (Blk.new w 24 [.int .i64 n, .slice a m c]).alloc _)
  have L1 := Lib.hid (bel_new hl0 (.cells (adc x2).toArray 42))
  clear hrl hlb hI hl0
  go_enter Try.func9, Try.ntmps9
  go_upto_region 1 with fail
  generalize ((w.alloc (.cells #[.int .i64 n, .slice a m c] 24)).alloc (.cells (adc x2).toArray 42)) = w1 at *
  go_wp2_with fail
  ((with_reducible refine (alive15_calls w1).mono ?_))
  rintro e w2 ⟨rfl, hb⟩
  have NB2 := Lib.hid (NB1.out.below hb)
  have L2 := Lib.hid (L1.out.trans (hb.mono L1.out.size))
  have AB2 := Lib.hid (AB1.out.below hb)
  clear hb NB1 L1 AB1
  have x1 : w2.cell? ⟨w.heap.size, 1, none⟩ = some (.slice a m c) := NB2.out.cell 1
  by_cases q0 : 100 < m
  · have q0' : (100 : Int) < (m : Int) := by omega
    go_wp2_with fail
    go_ret
    exact ⟨rfl, L2.out⟩
  have q0' : ¬ (100 : Int) < (m : Int) := by omega
  have HM := Lib.hid (show m ≤ 100 by omega)
  clear q0
  have x0 : w2.cell? ⟨w.heap.size, 0, none⟩ = some (.int .i64 n) := NB2.out.cell 0
  by_cases hz : chk n L = 0
  case neg =>
    have hn := new15_no n a m c L w2 ((HRL.out.below L2.out).more L2.out.size) HI.out.1 HI.out.2 (by have := HM.out; omega) hz
    have HN := Lib.hid hn
    have HZ := Lib.hid hz
    clear hn hz
    go_wp2_with fail
    ((with_reducible refine HN.out.mono ?_))
    rintro e w3 ⟨rfl, hb⟩
    have NB3 := Lib.hid (NB2.out.below hb)
    have L3 := Lib.hid (L2.out.trans (hb.mono L2.out.size))
    clear hb HN x0 x1 NB2 L2
    have x0 : w3.cell? ⟨w.heap.size, 0, none⟩ = some (.int .i64 n) := NB3.out.cell 0
    have x1 : w3.cell? ⟨w.heap.size, 1, none⟩ = some (.slice a m c) := NB3.out.cell 1
    obtain ⟨z, hzz⟩ : ∃ z, chk n L = z := ⟨_, rfl⟩
    have hck := rcheck_calls n a m c L w3 ((HRL.out.below L3.out).more L3.out.size) (by have := HM.out; omega)
    rw [hzz] at hck
    have HCK := Lib.hid hck
    have hzn : (z == 0) = false := beq_eq_false_iff_ne.2 (by rw [← hzz]; exact HZ.out)
    have hzm : (z != 0) = true := bne_iff_ne.2 (by rw [← hzz]; exact HZ.out)
    clear hck hzz
    go_wp2_with fail
    ((with_reducible refine HCK.out.mono ?_))
    rintro e w4 ⟨rfl, hb⟩
    have L4 := Lib.hid (L3.out.trans (hb.mono L3.out.size))
    clear hb HCK x0 x1
    go_wp2_with fail
    go_ret
    exact ⟨rfl, L4.out⟩
  case pos =>
    have hn := new15_yes n a m c L HLB.out w2 ((HRL.out.below L2.out).more L2.out.size) HI.out.1 HI.out.2 (by have := HM.out; omega) hz
    have HN := Lib.hid hn
    have HZ := Lib.hid hz
    have HSM := Lib.hid (chk_small hz)
    have HBS := Lib.hid (bs15_new (chk_small hz).2.1 (fun x hx => HLB.out x hx))
    clear hn hz
    go_wp2_with fail
    ((with_reducible refine HN.out.mono ?_))
    intro e w3 h
    obtain ⟨q, S, rfl, lv, hb, hs⟩ := Liv.start L2.out h
    have V3 := Lib.hid lv
    have NB3 := Lib.hid (show BlkO w3 S w.heap.size 24 [.int .i64 n, .slice a m c] from ⟨NB2.out.below hb, fun h9 => by have := hs _ h9; have := NB2.out.lt; omega⟩)
    have AB3 := Lib.hid (show BlkO w3 S (w.heap.size + 1) 42 (adc x2) from ⟨AB2.out.below hb, fun h9 => by have := hs _ h9; have := AB2.out.lt; omega⟩)
    clear lv hb hs h HN x0 x1 NB2 L2 AB2
    have HI2 := Lib.hid (show (Try.prog.info? 42).map (·.size) = some (adc x2).length from infoAdS15)
    have HT2 := Lib.hid (fun W => theirs15_calls x2 W)
    unfold Back15 at HT2
    have hm1 : m ≤ 100 := HM.out
    go_wp2_with fail
    go_loopw [8] (fun t W => ∃ (i : Nat) (b : List Ad), i ≤ n1 ∧ i ≤ 100 ∧ t = .int .i64 (i : Int) ∧ Bs15 L b ∧ Liv w W q b S ∧ BlkO W S (w.heap.size + 1) 42 (adc x2)) (fun t W => 100 - (intOf t).toNat)
    case atStart => exact ⟨0, bnew L, by omega, by omega, rfl, HBS.out, V3.out, AB3.out⟩
    case round =>
      clear V3 AB3 NB3
      obtain ⟨i, b, hin, hi100, rfl, hbs, hv, hab⟩ := hrel
      have B := Lib.hid hbs
      have V := Lib.hid hv
      have AB := Lib.hid hab
      clear hv hab hbs
      by_cases hlt : i < n1 ∧ i < 100
      · obtain ⟨hl1, hl2⟩ := hlt
        have i1 : (i : Int) < (n1 : Int) := by omega
        have i2 : (i : Int) < 100 := by omega
        have HI1 := Lib.hid (And.intro hl1 hl2)
        obtain ⟨bb, o, x, rfl, hx, hbb, hc⟩ := range15 HR.out hl1
        have HXO := Lib.hid (HOK.out x (List.mem_of_getElem? hx))
        have HX := Lib.hid hx
        have HC := Lib.hid (fun W (hW : Below w.heap.size w W) => hc W hW)
        have HIN := Lib.hid (show (Try.prog.info? 42).map (·.size) = some (adc x).length from infoAdS15)
        have HTH := Lib.hid (fun W => theirs15_calls x W)
        unfold Back15 at HTH
        clear hx hbb hc
        clear hl1 hl2 hin hi100
        have HC9 := Lib.hid (HC.out wr V.out.bel)
        go_wp2_with (refine step_load_at (o := ⟨some 50, _, _, _, _, _⟩) rfl rfl rfl HC9.out Try.underlying42 rfl HIN.out ?_)
        ((with_reducible refine (HTH.out wr).mono ?_))
        rintro e v2 ⟨rfl, hb⟩
        have V := Lib.hid (V.out.below hb)
        have AB := Lib.hid (AB.out.below hb)
        clear hb
        have hap := apply15c_calls q b S x HXO.out.1 HXO.out.2 v2 V.out.bas
        obtain ⟨r, hr⟩ : ∃ r, bApply b x = r := ⟨_, rfl⟩
        rw [hr] at hap
        unfold Ap15 at hap
        have HAP := Lib.hid hap
        have HRE := Lib.hid hr
        clear hap hr
        go_wp2_with fail
        ((with_reducible refine HAP.out.mono ?_))
        rintro e v3 ⟨rfl, hb, ht⟩
        have AB := Lib.hid (AB.out.turn ht)
        have V := Lib.hid (V.out.apply hb ht)
        clear hb ht HAP
        have B2 := Lib.hid (show Bs15 L r.1 from by rw [← HRE.out]; exact bs15_apply HSM.out.2.2 B.out HXO.out.1)
        go_wp2_with fail
        go_roundw
        case rel => exact ⟨i + 1, r.1, by have := HI1.out; omega, by have := HI1.out; omega, by first | rfl | (simp; omega), B2.out, V.out, AB.out⟩
        case measure => have := HI1.out; simp [intOf]; omega
      · by_cases h9 : i < n1
        · have i1 : (i : Int) < (n1 : Int) := by omega
          have i2 : ¬ (i : Int) < 100 := by omega
          clear hlt h9
          have hbm : b.length = m := by rw [B.out.length]; exact HRL.out.1
          have HBM := Lib.hid hbm
          have HBK := Lib.hid V.out.bas.ok
          clear hin hi100 hbm
          generalize wr = w4 at *
          have hall := all15c_calls q b S w4 V.out.bas
          rw [HBM.out] at hall
          unfold Cl15 at hall
          have HALL := Lib.hid hall
          clear hall
          go_wp2_with fail
          ((with_reducible refine HALL.out.mono ?_))
          rintro e w5 ⟨A9, c9, rfl, acc, hb⟩
          have RW := Lib.hid (show RowO adc w5 S A9 m b from by have := RowO.of_acc (S := S) (fun x hx => V.out.bas.lt x hx) acc; rwa [HBM.out] at this)
          have V := Lib.hid (V.out.below hb)
          have AB := Lib.hid (AB.out.below hb)
          clear acc hb HALL
          go_wp2_with (refine step_load (o := ⟨some 57, _, _, _, _, _⟩) rfl rfl rfl AB.out.blk Try.underlying42 rfl HI2.out ?_)
          ((with_reducible refine (HT2.out w5).mono ?_))
          rintro e w6 ⟨rfl, hb⟩
          have RW := Lib.hid (RW.out.below hb)
          have V := Lib.hid (V.out.below hb)
          have AB := Lib.hid (AB.out.below hb)
          clear hb
          have hap := apply15c_calls q b S x2 HX2.out.1 HX2.out.2 w6 V.out.bas
          have hdis : Dis b := B.out.dis HSM.out.2.2
          rcases bApply_cases b x2 with ⟨hd, hb1⟩ | ⟨k, hk, hpl, hvl, hend, hqq, hba⟩
          · obtain ⟨f, hf⟩ : ∃ f, (bApply b x2).2.2 = f := ⟨_, rfl⟩
            unfold Ap15 at hap
            rw [hd, hb1, hf] at hap
            have HAP := Lib.hid hap
            clear hap hd hb1 hf hdis
            go_wp2_with fail
            ((with_reducible refine HAP.out.mono ?_))
            rintro e w7 ⟨rfl, hb, ht⟩
            have RW := Lib.hid (RW.out.turn ht)
            have V := Lib.hid (V.out.apply hb ht)
            clear hb ht HAP AB
            have hall := all15c_calls q b S w7 V.out.bas
            rw [HBM.out] at hall
            unfold Cl15 at hall
            have HALL := Lib.hid hall
            clear hall
            go_wp2_with fail
            ((with_reducible refine HALL.out.mono ?_))
            rintro e w8 ⟨A12, c12, rfl, acc, hb⟩
            have RN := Lib.hid (show RowO adc w8 S A12 m b from by have := RowO.of_acc (S := S) (fun x hx => V.out.bas.lt x hx) acc; rwa [HBM.out] at this)
            have RW := Lib.hid (RW.out.below hb)
            have V := Lib.hid (V.out.below hb)
            clear acc hb HALL
            have hou := fun (A : Option Addr) (c : Nat) W (h : RowO adc W S A m b) => ours15_calls A m c b W h.row (by have := HM.out; omega)
            unfold OurP15 at hou
            rw [HBM.out] at hou
            have HOU := Lib.hid hou
            clear hou
            go_wp2_with fail
            ((with_reducible refine (HOU.out A9 c9 w8 RW.out).mono ?_))
            rintro e w9 ⟨A13, c13, rfl, acc, hb⟩
            have HL9 := Lib.hid (V.out.bas.lt)
            have RO := Lib.hid (show RowO adc w9 S A13 m b from by have := RowO.of_acc (S := S) (fun x hx => HL9.out x hx) acc; rwa [HBM.out] at this)
            have RN := Lib.hid (RN.out.below hb)
            have V := Lib.hid (V.out.below hb)
            clear acc hb HL9
            go_wp2_with fail
            ((with_reducible refine (HOU.out A12 c12 w9 RN.out).mono ?_))
            rintro e w10 ⟨A14, c14, rfl, acc, hb⟩
            have RO := Lib.hid (RO.out.below hb)
            have V := Lib.hid (V.out.below hb)
            have hsa := rsame15_calls A13 A14 m m c13 c14 b b (fun y hy => (HBK.out.1 y hy).1) (fun y hy => (HBK.out.1 y hy).1) w10 RO.out.row (row15 acc HBM.out) (by have := HM.out; omega) (by have := HM.out; omega)
            unfold Yes15 at hsa
            rw [decide_eq_true rfl] at hsa
            have HSA := Lib.hid hsa
            clear acc hb hsa HOU
            go_wp2_with fail
            ((with_reducible refine HSA.out.mono ?_))
            rintro e w11 ⟨rfl, hb⟩
            have V := Lib.hid (V.out.below hb)
            clear hb HSA
            go_wp2_with fail
            go_ret
            exact ⟨rfl, V.out.bel⟩
          · obtain ⟨b2, hb2⟩ : ∃ b2, b.set k x2 = b2 := ⟨_, rfl⟩
            have hag := bApply_again hdis x2 (by rw [hba])
            rw [hba, hb2] at hag
            simp only at hag
            have hget : ∀ j y, b2[j]? = some y → (j = k ∧ y = x2) ∨ (j ≠ k ∧ b[j]? = some y ∧ y ≠ x2) := fun j y hy => by
              rw [← hb2, List.getElem?_set] at hy
              by_cases hjk : k = j
              · subst hjk
                rw [if_pos rfl, if_pos hk] at hy
                injection hy with hy
                exact .inl ⟨rfl, hy.symm⟩
              · rw [if_neg hjk] at hy
                refine .inr ⟨fun e => hjk e.symm, hy, fun e => hjk ?_⟩
                obtain ⟨hj, rfl⟩ := List.getElem?_eq_some_iff.1 hy
                exact dis_get hdis hk hj (by rw [hend, e])
            have hb2l : b2.length = m := by rw [← hb2, List.length_set]; exact HBM.out
            unfold Ap15 at hap
            rw [hba, hb2] at hap
            simp only at hap
            have HAP := Lib.hid hap
            have HAG := Lib.hid hag
            have HGET := Lib.hid hget
            have HB2 := Lib.hid hb2l
            have HKM := Lib.hid (show k < m by rw [← HBM.out]; exact hk)
            clear hap hag hget hb2l hba hb2 hdis hend hqq hvl hpl hk
            go_wp2_with fail
            ((with_reducible refine HAP.out.mono ?_))
            rintro e w7 ⟨rfl, hb, ht⟩
            have RW := Lib.hid (RW.out.turn ht)
            have AB := Lib.hid (AB.out.turn ht)
            have V := Lib.hid (V.out.apply hb ht)
            clear hb ht HAP
            have hall := fun W (h : Liv w W q b2 S) => all15c_calls q b2 S W h.bas
            rw [HB2.out] at hall
            unfold Cl15 at hall
            have HALL := Lib.hid hall
            clear hall
            go_wp2_with fail
            ((with_reducible refine (HALL.out w7 V.out).mono ?_))
            rintro e w8 ⟨A12, c12, rfl, acc, hb⟩
            have RN := Lib.hid (show RowO adc w8 S A12 m b2 from by have := RowO.of_acc (S := S) (fun x hx => V.out.bas.lt x hx) acc; rwa [HB2.out] at this)
            have RW := Lib.hid (RW.out.below hb)
            have AB := Lib.hid (AB.out.below hb)
            have V := Lib.hid (V.out.below hb)
            clear acc hb
            go_wp2_with (refine step_load (o := ⟨some 77, _, _, _, _, _⟩) rfl rfl rfl AB.out.blk Try.underlying42 rfl HI2.out ?_)
            ((with_reducible refine (HT2.out w8).mono ?_))
            rintro e w9 ⟨rfl, hb⟩
            have RW := Lib.hid (RW.out.below hb)
            have RN := Lib.hid (RN.out.below hb)
            have V := Lib.hid (V.out.below hb)
            have AB := Lib.hid (AB.out.below hb)
            clear hb
            have hap := apply15c_calls q b2 S x2 HX2.out.1 HX2.out.2 w9 V.out.bas
            unfold Ap15 at hap
            rw [HAG.out] at hap
            simp only at hap
            have HAP := Lib.hid hap
            clear hap
            go_wp2_with fail
            ((with_reducible refine HAP.out.mono ?_))
            rintro e w10 ⟨rfl, hb, ht⟩
            have RW := Lib.hid (RW.out.turn ht)
            have RN := Lib.hid (RN.out.turn ht)
            have AB := Lib.hid (AB.out.turn ht)
            have V := Lib.hid (V.out.apply hb ht)
            clear hb ht HAP
            have hok2 : ∀ y ∈ b2, AdOk y := fun y hy => (V.out.bas.ok.1 y hy).1
            have HOK2 := Lib.hid hok2
            clear hok2
            go_wp2_with fail
            go_loopw [15, 84] (fun s t W => ∃ j : Nat, j ≤ m ∧ s = .int .i64 (if k < j then 1 else 0) ∧ t = .int .i64 (j : Int) ∧ RowO adc W S A9 m b ∧ RowO adc W S A12 m b2 ∧ BlkO W S (w.heap.size + 1) 42 (adc x2) ∧ Liv w W q b2 S) (fun s t W => m - (intOf t).toNat)
            case atStart => exact ⟨0, by omega, rfl, rfl, RW.out, RN.out, AB.out, V.out⟩
            case round =>
              clear RW RN AB V
              obtain ⟨j, hj, rfl, rfl, hrw, hrn, hab, hv⟩ := hrel
              have RW := Lib.hid hrw
              have RN := Lib.hid hrn
              have AB := Lib.hid hab
              have V := Lib.hid hv
              clear hrw hrn hab hv
              by_cases hjm : j < m
              · have j1 : (j : Int) < (m : Int) := by omega
                have HJ := Lib.hid hjm
                obtain ⟨gn, on, y, rfl, hy, _, hcn⟩ := range15 RN.out.row hjm
                obtain ⟨gw, ow, z, rfl, hz, _, hcw⟩ := range15 RW.out.row hjm
                have HCN := Lib.hid hcn
                have HCWW := Lib.hid hcw
                have hyo := HOK2.out y (List.mem_of_getElem? hy)
                have hzo := (HBK.out.1 z (List.mem_of_getElem? hz)).1
                have hcas := HGET.out j y hy
                obtain ⟨de, hde⟩ : ∃ de, decide (y = x2) = de := ⟨_, rfl⟩
                have HEQ := Lib.hid (fun W => (eq_adT15 hyo HX2.out.1 W).1)
                rw [hde] at HEQ
                have HDE := Lib.hid hde
                have HYZ := Lib.hid (fun W => (eq_adT15 hyo hzo W).2)
                have HCAS := Lib.hid hcas
                have HZ2 := Lib.hid hz
                have HIY := Lib.hid (show (Try.prog.info? 40).map (·.size) = some (adc y).length from infoAdTS15)
                obtain ⟨cnt, hcnt⟩ : ∃ cnt : Int, (if k < j then 1 else 0) = cnt := ⟨_, rfl⟩
                have HCNT := Lib.hid hcnt
                have hc01 : 0 ≤ cnt ∧ cnt ≤ 1 := by rw [← hcnt]; split <;> omega
                obtain ⟨hc0, hc1⟩ := hc01
                rw [hcnt]
                clear hy hz hcn hcw hyo hzo hcas hde hcnt hjm hj
                go_wp2_with fail
                refine region_seq (fun W => Below wr.heap.size wr W) [(0, true), (1, true), (2, true), (3, true), (4, true), (5, false), (6, true)] (by kernel_rfl) (by kernel_rfl) (by kernel_rfl) (by kernel_rfl) (fun _ _ _ _ _ h => h) (Below.refl _ _).drew ?_
                repeat first
                  | refine seq_load_at15 rfl (by rfl) rfl rfl HCN.out Try.underlying40 rfl HIY.out ?_
                    simp only [Act.put, List.setIfInBounds_toArray, List.set_cons_zero, List.set_cons_succ]
                  | refine seq_load8 (x := .tmp 5) rfl (by rfl) rfl rfl (fun W hW => AB.out.blk.below hW) Try.underlying42 rfl HI2.out ?_
                    simp only [Act.put, List.setIfInBounds_toArray, List.set_cons_zero, List.set_cons_succ]
                  | refine seq_pure (v := ?_) rfl (by rfl) (fun W hW => ?_) ?_
                    rotate_left
                    · clear hW
                      go_simp
                      with_reducible rfl
                    simp only [Act.put, List.setIfInBounds_toArray, List.set_cons_zero, List.set_cons_succ]
                refine seq_make rfl (by rfl) (fun K hK => ?_)
                go_simp
                ((with_reducible refine (HT2.out wr.drew).mono ?_))
                rintro e y1 ⟨rfl, hb⟩
                have SB := Lib.hid (show Below wr.heap.size wr y1 from below_of_drew hb)
                clear hb
                go_simp
                refine hK _ _ (fun W => Below wr.heap.size wr W) (fun W h => h) SB.out ?_
                clear hK K
                refine seq_eqA (xs := adc y) (ys := adc x2) (c := de) rfl (by rfl) rfl rfl rfl (by kernel_rfl) HEQ.out ?_
                simp only [Act.put, List.setIfInBounds_toArray, List.set_cons_zero, List.set_cons_succ]
                refine seq_done ?_
                have HCWY := Lib.hid (fun W (hW : Below y1.heap.size y1 W) => HCWW.out W (SB.out.trans (hW.mono SB.out.size)))
                have HCNY := Lib.hid (fun W (hW : Below y1.heap.size y1 W) => HCN.out W (SB.out.trans (hW.mono SB.out.size)))
                have RW := Lib.hid (RW.out.below SB.out)
                have RN := Lib.hid (RN.out.below SB.out)
                have AB := Lib.hid (AB.out.below SB.out)
                have V := Lib.hid (V.out.below SB.out)
                clear SB HCN HCWW
                cases de with
                | true =>
                  have hjk : j = k := by
                    rcases HCAS.out with ⟨h, _⟩ | ⟨_, _, h⟩
                    · exact h
                    · exact absurd (of_decide_eq_true HDE.out) h
                  have HJK := Lib.hid hjk
                  have hcz : cnt = 0 := by rw [← HCNT.out, if_neg (by omega)]
                  subst hcz
                  clear hjk
                  go_wp2_with fail
                  go_roundw
                  case rel => exact ⟨j + 1, by have := HJ.out; omega, by rw [if_pos (by have := HJK.out; omega)], by first | rfl | (simp; omega), RW.out, RN.out, AB.out, V.out⟩
                  case measure => have := HJ.out; simp [intOf]; omega
                | false =>
                  have hcas : j ≠ k ∧ y = z := by
                    rcases HCAS.out with ⟨_, h⟩ | ⟨h, h2, _⟩
                    · have := of_decide_eq_false HDE.out
                      exact absurd h this
                    · refine ⟨h, ?_⟩
                      have := HZ2.out
                      rw [h2] at this
                      injection this
                  obtain ⟨hjk, rfl⟩ := hcas
                  have HNE := Lib.hid (fun W => (show (binOp .neq 40 (.agg (adc y).toArray) (.agg (adc y).toArray)).run Try.prog W = .ok (.bool false) W from by have := HYZ.out W; simpa using this))
                  have HJK := Lib.hid hjk
                  clear hjk
                  go_wp2_with fail
                  refine region_seq (fun W => Below y1.heap.size y1 W) [(0, true), (1, true), (2, true), (3, true), (4, true), (5, true), (6, true), (7, true), (8, true)] (by kernel_rfl) (by kernel_rfl) (by kernel_rfl) (by kernel_rfl) (fun _ _ _ _ _ h => h) (Below.refl _ _).drew ?_
                  repeat first
                    | refine seq_load_at15 rfl (by rfl) rfl rfl HCNY.out Try.underlying40 rfl HIY.out ?_
                      simp only [Act.put, List.setIfInBounds_toArray, List.set_cons_zero, List.set_cons_succ]
                    | refine seq_load_at15 rfl (by rfl) rfl rfl HCWY.out Try.underlying40 rfl HIY.out ?_
                      simp only [Act.put, List.setIfInBounds_toArray, List.set_cons_zero, List.set_cons_succ]
                    | refine seq_neA (xs := adc y) (ys := adc y) (c := false) rfl (by rfl) rfl rfl rfl (by kernel_rfl) HNE.out ?_
                      simp only [Act.put, List.setIfInBounds_toArray, List.set_cons_zero, List.set_cons_succ]
                    | refine seq_pure (v := ?_) rfl (by rfl) (fun W hW => ?_) ?_
                      rotate_left
                      · clear hW
                        go_simp
                        with_reducible rfl
                      simp only [Act.put, List.setIfInBounds_toArray, List.set_cons_zero, List.set_cons_succ]
                  refine seq_done ?_
                  have hdr := (Below.refl y1.heap.size y1).drew
                  have RW := Lib.hid (RW.out.below hdr)
                  have RN := Lib.hid (RN.out.below hdr)
                  have AB := Lib.hid (AB.out.below hdr)
                  have V := Lib.hid (V.out.below hdr)
                  clear hdr
                  go_wp2_with fail
                  go_roundw
                  case rel => exact ⟨j + 1, by have := HJ.out; omega, by rw [← HCNT.out]; congr 1; have := HJK.out; split <;> split <;> omega, by first | rfl | (simp; omega), RW.out, RN.out, AB.out, V.out⟩
                  case measure => have := HJ.out; simp [intOf]; omega
              · obtain rfl : j = m := by omega
                have j1 : ¬ (j : Int) < (j : Int) := by omega
                have hif : (if k < j then (1 : Int) else 0) = 1 := if_pos HKM.out
                rw [hif]
                clear hif hjm hj
                have hou := fun (A : Option Addr) (c : Nat) W (h : RowO adc W S A j b2) => ours15_calls A j c b2 W h.row (by have := HM.out; omega)
                unfold OurP15 at hou
                rw [HB2.out] at hou
                have HOU := Lib.hid hou
                clear hou
                go_wp2_with fail
                ((with_reducible refine (HALL.out wr V.out).mono ?_))
                rintro e v1 ⟨A20, c20, rfl, acc, hb⟩
                have R1 := Lib.hid (show RowO adc v1 S A20 j b2 from by have := RowO.of_acc (S := S) (fun x hx => V.out.bas.lt x hx) acc; rwa [HB2.out] at this)
                have RN := Lib.hid (RN.out.below hb)
                have V := Lib.hid (V.out.below hb)
                clear acc hb
                go_wp2_with fail
                ((with_reducible refine (HOU.out A20 c20 v1 R1.out).mono ?_))
                rintro e v2 ⟨A21, c21, rfl, acc, hb⟩
                have R2 := Lib.hid (show RowO adc v2 S A21 j b2 from by have := RowO.of_acc (S := S) (fun x hx => V.out.bas.lt x hx) acc; rwa [HB2.out] at this)
                have RN := Lib.hid (RN.out.below hb)
                have V := Lib.hid (V.out.below hb)
                clear acc hb
                go_wp2_with fail
                ((with_reducible refine (HOU.out A12 c12 v2 RN.out).mono ?_))
                rintro e v3 ⟨A22, c22, rfl, acc, hb⟩
                have R3 := Lib.hid (R2.out.below hb)
                have V := Lib.hid (V.out.below hb)
                have hsa := rsame15_calls A21 A22 j j c21 c22 b2 b2 HOK2.out HOK2.out v3 R3.out.row (row15 acc HB2.out) (by have := HM.out; omega) (by have := HM.out; omega)
                unfold Yes15 at hsa
                rw [decide_eq_true rfl] at hsa
                have HSA := Lib.hid hsa
                clear acc hb hsa
                go_wp2_with fail
                ((with_reducible refine HSA.out.mono ?_))
                rintro e v4 ⟨rfl, hb⟩
                have V := Lib.hid (V.out.below hb)
                clear hb HSA
                go_wp2_with fail
                go_ret
                exact ⟨rfl, V.out.bel⟩
        · have i1 : ¬ (i : Int) < (n1 : Int) := by omega
          clear hlt h9
          have hbm : b.length = m := by rw [B.out.length]; exact HRL.out.1
          have HBM := Lib.hid hbm
          have HBK := Lib.hid V.out.bas.ok
          clear hin hi100 hbm
          generalize wr = w4 at *
          have hall := all15c_calls q b S w4 V.out.bas
          rw [HBM.out] at hall
          unfold Cl15 at hall
          have HALL := Lib.hid hall
          clear hall
          go_wp2_with fail
          ((with_reducible refine HALL.out.mono ?_))
          rintro e w5 ⟨A9, c9, rfl, acc, hb⟩
          have RW := Lib.hid (show RowO adc w5 S A9 m b from by have := RowO.of_acc (S := S) (fun x hx => V.out.bas.lt x hx) acc; rwa [HBM.out] at this)
          have V := Lib.hid (V.out.below hb)
          have AB := Lib.hid (AB.out.below hb)
          clear acc hb HALL
          go_wp2_with (refine step_load (o := ⟨some 57, _, _, _, _, _⟩) rfl rfl rfl AB.out.blk Try.underlying42 rfl HI2.out ?_)
          ((with_reducible refine (HT2.out w5).mono ?_))
          rintro e w6 ⟨rfl, hb⟩
          have RW := Lib.hid (RW.out.below hb)
          have V := Lib.hid (V.out.below hb)
          have AB := Lib.hid (AB.out.below hb)
          clear hb
          have hap := apply15c_calls q b S x2 HX2.out.1 HX2.out.2 w6 V.out.bas
          have hdis : Dis b := B.out.dis HSM.out.2.2
          rcases bApply_cases b x2 with ⟨hd, hb1⟩ | ⟨k, hk, hpl, hvl, hend, hqq, hba⟩
          · obtain ⟨f, hf⟩ : ∃ f, (bApply b x2).2.2 = f := ⟨_, rfl⟩
            unfold Ap15 at hap
            rw [hd, hb1, hf] at hap
            have HAP := Lib.hid hap
            clear hap hd hb1 hf hdis
            go_wp2_with fail
            ((with_reducible refine HAP.out.mono ?_))
            rintro e w7 ⟨rfl, hb, ht⟩
            have RW := Lib.hid (RW.out.turn ht)
            have V := Lib.hid (V.out.apply hb ht)
            clear hb ht HAP AB
            have hall := all15c_calls q b S w7 V.out.bas
            rw [HBM.out] at hall
            unfold Cl15 at hall
            have HALL := Lib.hid hall
            clear hall
            go_wp2_with fail
            ((with_reducible refine HALL.out.mono ?_))
            rintro e w8 ⟨A12, c12, rfl, acc, hb⟩
            have RN := Lib.hid (show RowO adc w8 S A12 m b from by have := RowO.of_acc (S := S) (fun x hx => V.out.bas.lt x hx) acc; rwa [HBM.out] at this)
            have RW := Lib.hid (RW.out.below hb)
            have V := Lib.hid (V.out.below hb)
            clear acc hb HALL
            have hou := fun (A : Option Addr) (c : Nat) W (h : RowO adc W S A m b) => ours15_calls A m c b W h.row (by have := HM.out; omega)
            unfold OurP15 at hou
            rw [HBM.out] at hou
            have HOU := Lib.hid hou
            clear hou
            go_wp2_with fail
            ((with_reducible refine (HOU.out A9 c9 w8 RW.out).mono ?_))
            rintro e w9 ⟨A13, c13, rfl, acc, hb⟩
            have HL9 := Lib.hid (V.out.bas.lt)
            have RO := Lib.hid (show RowO adc w9 S A13 m b from by have := RowO.of_acc (S := S) (fun x hx => HL9.out x hx) acc; rwa [HBM.out] at this)
            have RN := Lib.hid (RN.out.below hb)
            have V := Lib.hid (V.out.below hb)
            clear acc hb HL9
            go_wp2_with fail
            ((with_reducible refine (HOU.out A12 c12 w9 RN.out).mono ?_))
            rintro e w10 ⟨A14, c14, rfl, acc, hb⟩
            have RO := Lib.hid (RO.out.below hb)
            have V := Lib.hid (V.out.below hb)
            have hsa := rsame15_calls A13 A14 m m c13 c14 b b (fun y hy => (HBK.out.1 y hy).1) (fun y hy => (HBK.out.1 y hy).1) w10 RO.out.row (row15 acc HBM.out) (by have := HM.out; omega) (by have := HM.out; omega)
            unfold Yes15 at hsa
            rw [decide_eq_true rfl] at hsa
            have HSA := Lib.hid hsa
            clear acc hb hsa HOU
            go_wp2_with fail
            ((with_reducible refine HSA.out.mono ?_))
            rintro e w11 ⟨rfl, hb⟩
            have V := Lib.hid (V.out.below hb)
            clear hb HSA
            go_wp2_with fail
            go_ret
            exact ⟨rfl, V.out.bel⟩
          · obtain ⟨b2, hb2⟩ : ∃ b2, b.set k x2 = b2 := ⟨_, rfl⟩
            have hag := bApply_again hdis x2 (by rw [hba])
            rw [hba, hb2] at hag
            simp only at hag
            have hget : ∀ j y, b2[j]? = some y → (j = k ∧ y = x2) ∨ (j ≠ k ∧ b[j]? = some y ∧ y ≠ x2) := fun j y hy => by
              rw [← hb2, List.getElem?_set] at hy
              by_cases hjk : k = j
              · subst hjk
                rw [if_pos rfl, if_pos hk] at hy
                injection hy with hy
                exact .inl ⟨rfl, hy.symm⟩
              · rw [if_neg hjk] at hy
                refine .inr ⟨fun e => hjk e.symm, hy, fun e => hjk ?_⟩
                obtain ⟨hj, rfl⟩ := List.getElem?_eq_some_iff.1 hy
                exact dis_get hdis hk hj (by rw [hend, e])
            have hb2l : b2.length = m := by rw [← hb2, List.length_set]; exact HBM.out
            unfold Ap15 at hap
            rw [hba, hb2] at hap
            simp only at hap
            have HAP := Lib.hid hap
            have HAG := Lib.hid hag
            have HGET := Lib.hid hget
            have HB2 := Lib.hid hb2l
            have HKM := Lib.hid (show k < m by rw [← HBM.out]; exact hk)
            clear hap hag hget hb2l hba hb2 hdis hend hqq hvl hpl hk
            go_wp2_with fail
            ((with_reducible refine HAP.out.mono ?_))
            rintro e w7 ⟨rfl, hb, ht⟩
            have RW := Lib.hid (RW.out.turn ht)
            have AB := Lib.hid (AB.out.turn ht)
            have V := Lib.hid (V.out.apply hb ht)
            clear hb ht HAP
            have hall := fun W (h : Liv w W q b2 S) => all15c_calls q b2 S W h.bas
            rw [HB2.out] at hall
            unfold Cl15 at hall
            have HALL := Lib.hid hall
            clear hall
            go_wp2_with fail
            ((with_reducible refine (HALL.out w7 V.out).mono ?_))
            rintro e w8 ⟨A12, c12, rfl, acc, hb⟩
            have RN := Lib.hid (show RowO adc w8 S A12 m b2 from by have := RowO.of_acc (S := S) (fun x hx => V.out.bas.lt x hx) acc; rwa [HB2.out] at this)
            have RW := Lib.hid (RW.out.below hb)
            have AB := Lib.hid (AB.out.below hb)
            have V := Lib.hid (V.out.below hb)
            clear acc hb
            go_wp2_with (refine step_load (o := ⟨some 77, _, _, _, _, _⟩) rfl rfl rfl AB.out.blk Try.underlying42 rfl HI2.out ?_)
            ((with_reducible refine (HT2.out w8).mono ?_))
            rintro e w9 ⟨rfl, hb⟩
            have RW := Lib.hid (RW.out.below hb)
            have RN := Lib.hid (RN.out.below hb)
            have V := Lib.hid (V.out.below hb)
            have AB := Lib.hid (AB.out.below hb)
            clear hb
            have hap := apply15c_calls q b2 S x2 HX2.out.1 HX2.out.2 w9 V.out.bas
            unfold Ap15 at hap
            rw [HAG.out] at hap
            simp only at hap
            have HAP := Lib.hid hap
            clear hap
            go_wp2_with fail
            ((with_reducible refine HAP.out.mono ?_))
            rintro e w10 ⟨rfl, hb, ht⟩
            have RW := Lib.hid (RW.out.turn ht)
            have RN := Lib.hid (RN.out.turn ht)
            have AB := Lib.hid (AB.out.turn ht)
            have V := Lib.hid (V.out.apply hb ht)
            clear hb ht HAP
            have hok2 : ∀ y ∈ b2, AdOk y := fun y hy => (V.out.bas.ok.1 y hy).1
            have HOK2 := Lib.hid hok2
            clear hok2
            go_wp2_with fail
            go_loopw [15, 84] (fun s t W => ∃ j : Nat, j ≤ m ∧ s = .int .i64 (if k < j then 1 else 0) ∧ t = .int .i64 (j : Int) ∧ RowO adc W S A9 m b ∧ RowO adc W S A12 m b2 ∧ BlkO W S (w.heap.size + 1) 42 (adc x2) ∧ Liv w W q b2 S) (fun s t W => m - (intOf t).toNat)
            case atStart => exact ⟨0, by omega, rfl, rfl, RW.out, RN.out, AB.out, V.out⟩
            case round =>
              clear RW RN AB V
              obtain ⟨j, hj, rfl, rfl, hrw, hrn, hab, hv⟩ := hrel
              have RW := Lib.hid hrw
              have RN := Lib.hid hrn
              have AB := Lib.hid hab
              have V := Lib.hid hv
              clear hrw hrn hab hv
              by_cases hjm : j < m
              · have j1 : (j : Int) < (m : Int) := by omega
                have HJ := Lib.hid hjm
                obtain ⟨gn, on, y, rfl, hy, _, hcn⟩ := range15 RN.out.row hjm
                obtain ⟨gw, ow, z, rfl, hz, _, hcw⟩ := range15 RW.out.row hjm
                have HCN := Lib.hid hcn
                have HCWW := Lib.hid hcw
                have hyo := HOK2.out y (List.mem_of_getElem? hy)
                have hzo := (HBK.out.1 z (List.mem_of_getElem? hz)).1
                have hcas := HGET.out j y hy
                obtain ⟨de, hde⟩ : ∃ de, decide (y = x2) = de := ⟨_, rfl⟩
                have HEQ := Lib.hid (fun W => (eq_adT15 hyo HX2.out.1 W).1)
                rw [hde] at HEQ
                have HDE := Lib.hid hde
                have HYZ := Lib.hid (fun W => (eq_adT15 hyo hzo W).2)
                have HCAS := Lib.hid hcas
                have HZ2 := Lib.hid hz
                have HIY := Lib.hid (show (Try.prog.info? 40).map (·.size) = some (adc y).length from infoAdTS15)
                obtain ⟨cnt, hcnt⟩ : ∃ cnt : Int, (if k < j then 1 else 0) = cnt := ⟨_, rfl⟩
                have HCNT := Lib.hid hcnt
                have hc01 : 0 ≤ cnt ∧ cnt ≤ 1 := by rw [← hcnt]; split <;> omega
                obtain ⟨hc0, hc1⟩ := hc01
                rw [hcnt]
                clear hy hz hcn hcw hyo hzo hcas hde hcnt hjm hj
                go_wp2_with fail
                refine region_seq (fun W => Below wr.heap.size wr W) [(0, true), (1, true), (2, true), (3, true), (4, true), (5, false), (6, true)] (by kernel_rfl) (by kernel_rfl) (by kernel_rfl) (by kernel_rfl) (fun _ _ _ _ _ h => h) (Below.refl _ _).drew ?_
                repeat first
                  | refine seq_load_at15 rfl (by rfl) rfl rfl HCN.out Try.underlying40 rfl HIY.out ?_
                    simp only [Act.put, List.setIfInBounds_toArray, List.set_cons_zero, List.set_cons_succ]
                  | refine seq_load8 (x := .tmp 5) rfl (by rfl) rfl rfl (fun W hW => AB.out.blk.below hW) Try.underlying42 rfl HI2.out ?_
                    simp only [Act.put, List.setIfInBounds_toArray, List.set_cons_zero, List.set_cons_succ]
                  | refine seq_pure (v := ?_) rfl (by rfl) (fun W hW => ?_) ?_
                    rotate_left
                    · clear hW
                      go_simp
                      with_reducible rfl
                    simp only [Act.put, List.setIfInBounds_toArray, List.set_cons_zero, List.set_cons_succ]
                refine seq_make rfl (by rfl) (fun K hK => ?_)
                go_simp
                ((with_reducible refine (HT2.out wr.drew).mono ?_))
                rintro e y1 ⟨rfl, hb⟩
                have SB := Lib.hid (show Below wr.heap.size wr y1 from below_of_drew hb)
                clear hb
                go_simp
                refine hK _ _ (fun W => Below wr.heap.size wr W) (fun W h => h) SB.out ?_
                clear hK K
                refine seq_eqA (xs := adc y) (ys := adc x2) (c := de) rfl (by rfl) rfl rfl rfl (by kernel_rfl) HEQ.out ?_
                simp only [Act.put, List.setIfInBounds_toArray, List.set_cons_zero, List.set_cons_succ]
                refine seq_done ?_
                have HCWY := Lib.hid (fun W (hW : Below y1.heap.size y1 W) => HCWW.out W (SB.out.trans (hW.mono SB.out.size)))
                have HCNY := Lib.hid (fun W (hW : Below y1.heap.size y1 W) => HCN.out W (SB.out.trans (hW.mono SB.out.size)))
                have RW := Lib.hid (RW.out.below SB.out)
                have RN := Lib.hid (RN.out.below SB.out)
                have AB := Lib.hid (AB.out.below SB.out)
                have V := Lib.hid (V.out.below SB.out)
                clear SB HCN HCWW
                cases de with
                | true =>
                  have hjk : j = k := by
                    rcases HCAS.out with ⟨h, _⟩ | ⟨_, _, h⟩
                    · exact h
                    · exact absurd (of_decide_eq_true HDE.out) h
                  have HJK := Lib.hid hjk
                  have hcz : cnt = 0 := by rw [← HCNT.out, if_neg (by omega)]
                  subst hcz
                  clear hjk
                  go_wp2_with fail
                  go_roundw
                  case rel => exact ⟨j + 1, by have := HJ.out; omega, by rw [if_pos (by have := HJK.out; omega)], by first | rfl | (simp; omega), RW.out, RN.out, AB.out, V.out⟩
                  case measure => have := HJ.out; simp [intOf]; omega
                | false =>
                  have hcas : j ≠ k ∧ y = z := by
                    rcases HCAS.out with ⟨_, h⟩ | ⟨h, h2, _⟩
                    · have := of_decide_eq_false HDE.out
                      exact absurd h this
                    · refine ⟨h, ?_⟩
                      have := HZ2.out
                      rw [h2] at this
                      injection this
                  obtain ⟨hjk, rfl⟩ := hcas
                  have HNE := Lib.hid (fun W => (show (binOp .neq 40 (.agg (adc y).toArray) (.agg (adc y).toArray)).run Try.prog W = .ok (.bool false) W from by have := HYZ.out W; simpa using this))
                  have HJK := Lib.hid hjk
                  clear hjk
                  go_wp2_with fail
                  refine region_seq (fun W => Below y1.heap.size y1 W) [(0, true), (1, true), (2, true), (3, true), (4, true), (5, true), (6, true), (7, true), (8, true)] (by kernel_rfl) (by kernel_rfl) (by kernel_rfl) (by kernel_rfl) (fun _ _ _ _ _ h => h) (Below.refl _ _).drew ?_
                  repeat first
                    | refine seq_load_at15 rfl (by rfl) rfl rfl HCNY.out Try.underlying40 rfl HIY.out ?_
                      simp only [Act.put, List.setIfInBounds_toArray, List.set_cons_zero, List.set_cons_succ]
                    | refine seq_load_at15 rfl (by rfl) rfl rfl HCWY.out Try.underlying40 rfl HIY.out ?_
                      simp only [Act.put, List.setIfInBounds_toArray, List.set_cons_zero, List.set_cons_succ]
                    | refine seq_neA (xs := adc y) (ys := adc y) (c := false) rfl (by rfl) rfl rfl rfl (by kernel_rfl) HNE.out ?_
                      simp only [Act.put, List.setIfInBounds_toArray, List.set_cons_zero, List.set_cons_succ]
                    | refine seq_pure (v := ?_) rfl (by rfl) (fun W hW => ?_) ?_
                      rotate_left
                      · clear hW
                        go_simp
                        with_reducible rfl
                      simp only [Act.put, List.setIfInBounds_toArray, List.set_cons_zero, List.set_cons_succ]
                  refine seq_done ?_
                  have hdr := (Below.refl y1.heap.size y1).drew
                  have RW := Lib.hid (RW.out.below hdr)
                  have RN := Lib.hid (RN.out.below hdr)
                  have AB := Lib.hid (AB.out.below hdr)
                  have V := Lib.hid (V.out.below hdr)
                  clear hdr
                  go_wp2_with fail
                  go_roundw
                  case rel => exact ⟨j + 1, by have := HJ.out; omega, by rw [← HCNT.out]; congr 1; have := HJK.out; split <;> split <;> omega, by first | rfl | (simp; omega), RW.out, RN.out, AB.out, V.out⟩
                  case measure => have := HJ.out; simp [intOf]; omega
              · obtain rfl : j = m := by omega
                have j1 : ¬ (j : Int) < (j : Int) := by omega
                have hif : (if k < j then (1 : Int) else 0) = 1 := if_pos HKM.out
                rw [hif]
                clear hif hjm hj
                have hou := fun (A : Option Addr) (c : Nat) W (h : RowO adc W S A j b2) => ours15_calls A j c b2 W h.row (by have := HM.out; omega)
                unfold OurP15 at hou
                rw [HB2.out] at hou
                have HOU := Lib.hid hou
                clear hou
                go_wp2_with fail
                ((with_reducible refine (HALL.out wr V.out).mono ?_))
                rintro e v1 ⟨A20, c20, rfl, acc, hb⟩
                have R1 := Lib.hid (show RowO adc v1 S A20 j b2 from by have := RowO.of_acc (S := S) (fun x hx => V.out.bas.lt x hx) acc; rwa [HB2.out] at this)
                have RN := Lib.hid (RN.out.below hb)
                have V := Lib.hid (V.out.below hb)
                clear acc hb
                go_wp2_with fail
                ((with_reducible refine (HOU.out A20 c20 v1 R1.out).mono ?_))
                rintro e v2 ⟨A21, c21, rfl, acc, hb⟩
                have R2 := Lib.hid (show RowO adc v2 S A21 j b2 from by have := RowO.of_acc (S := S) (fun x hx => V.out.bas.lt x hx) acc; rwa [HB2.out] at this)
                have RN := Lib.hid (RN.out.below hb)
                have V := Lib.hid (V.out.below hb)
                clear acc hb
                go_wp2_with fail
                ((with_reducible refine (HOU.out A12 c12 v2 RN.out).mono ?_))
                rintro e v3 ⟨A22, c22, rfl, acc, hb⟩
                have R3 := Lib.hid (R2.out.below hb)
                have V := Lib.hid (V.out.below hb)
                have hsa := rsame15_calls A21 A22 j j c21 c22 b2 b2 HOK2.out HOK2.out v3 R3.out.row (row15 acc HB2.out) (by have := HM.out; omega) (by have := HM.out; omega)
                unfold Yes15 at hsa
                rw [decide_eq_true rfl] at hsa
                have HSA := Lib.hid hsa
                clear acc hb hsa
                go_wp2_with fail
                ((with_reducible refine HSA.out.mono ?_))
                rintro e v4 ⟨rfl, hb⟩
                have V := Lib.hid (V.out.below hb)
                clear hb HSA
                go_wp2_with fail
                go_ret
                exact ⟨rfl, V.out.bel⟩
end Go.Proofs.Ytmfmjdkeoiebpaa
