/-
  The law TedbNobody, walked: for any advert the answer is true, and nothing that was there has turned. Condition: numbers as large as their types allow.
-/
import Derived.Test.YtmfmjdkeoiebpaaTewC
import Derived.Test.YtmfmjdkeoiebpaaTedOpen
import Derived.Test.YtmfmjdkeoiebpaaTedK
namespace Go.Proofs.Ytmfmjdkeoiebpaa
set_option maxRecDepth 100000
set_option linter.unusedVariables false
open Go.RowKit

/-- No call made it. -/
def No15 (P : Option Addr) (w : World) : Prop := ∀ W, Below w.heap.size w W → Calls Try.prog 34 #[.pointer P] W fun e w' => e = .returned (.bool false) ∧ W = w'
theorem no15_nil (w : World) : No15 none w := fun W _ => made15_nil W
theorem no15_zero {w : World} {z : Nat} {T : TypeId} {vs : List Value} (h : Blk w z T (.bool false :: vs)) : No15 (some ⟨z, 0, none⟩) w := fun W hW => made15_calls z false W ((h.below hW).cell 0)
theorem noapply15 (P : Option Addr) (w : World) (h : No15 P w) (x : Ad) : Calls Try.prog 15 #[.pointer P, .agg (adc x).toArray] w fun e w' => e = .returned (.tuple #[.bool false, .int .i64 1]) ∧ Below w.heap.size w w' := by
  have hb := bel_new (Below.refl w.heap.size w) (.cells (adc x).toArray 40)
  have HM := Lib.hid (h _ hb)
  have HB := Lib.hid hb
  clear h hb
  go_enter Try.func15, Try.ntmps15
  go_upto_region 1 with fail
  generalize w.alloc (.cells (adc x).toArray 40) = w1 at *
  go_wp2_with fail
  ((with_reducible refine HM.out.mono ?_))
  rintro e w2 ⟨rfl, rfl⟩
  go_wp2_with fail
  refine bodyPost_ret (v := .tuple #[.bool false, .int .i64 1]) (by simp [results, Try.results15, go_sem]) rfl ?_
  exact ⟨rfl, HB.out⟩
theorem noall15 (P : Option Addr) (w : World) (h : No15 P w) : Calls Try.prog 20 #[.pointer P] w fun e w' => e = .returned (.slice none 0 0) ∧ w = w' := by
  have HM := Lib.hid (h _ (Below.refl _ _))
  clear h
  go_enter Try.func20, Try.ntmps20
  go_wp2_with fail
  ((with_reducible refine HM.out.mono ?_))
  rintro e w2 ⟨rfl, rfl⟩
  go_wp2_with fail
  go_ret
  exact ⟨rfl, rfl⟩
theorem nocopy15 (P : Option Addr) (w : World) (h : No15 P w) : Calls Try.prog 29 #[.pointer P] w fun e w' => e = .returned (.pointer none) ∧ w = w' := by
  have HM := Lib.hid (h _ (Below.refl _ _))
  clear h
  go_enter Try.func29, Try.ntmps29
  go_wp2_with fail
  ((with_reducible refine HM.out.mono ?_))
  rintro e w2 ⟨rfl, rfl⟩
  go_wp2_with fail
  go_ret
  exact ⟨rfl, rfl⟩
def al7 : Ad := ⟨⟨0, 1, 9, 1, 0⟩, 7, false, [0, 0, 0, 0, 0, 0, 0, 0]⟩
theorem al7_ok : AdOk al7 := ⟨rfl, by decide, by decide, by decide, by decide, by decide⟩
theorem al_seven : bApply [al0] al7 = ([al7], true, 0) := by decide
theorem row_link15 {W : World} {q : Nat} {k : Lk} (h : Blk W q 37 (lkc k)) : Row lkc W W.heap.size (some ⟨q, 0, none⟩) 1 [k] := by
  refine ⟨rfl, fun _ => ⟨q, 0, rfl, h.lt, fun i hi => ?_⟩⟩
  rw [Nat.zero_add, h.cell i]
  simp only [List.flatMap_cons, List.flatMap_nil, List.append_nil] at hi ⊢
  exact List.getElem?_eq_getElem hi
set_option maxHeartbeats 12800000 in
theorem nobody15_walk (x : Ad) (hx : AdOk x ∧ I15 x.q) (w : World) : Calls Try.prog 8 #[.agg (adc x).toArray] w fun e w' => e = .returned (.bool true) ∧ Below w.heap.size w w' := by
  have HX := Lib.hid hx
  have AB1 := Lib.hid (show Blk (w.alloc (.cells (adc x).toArray 42)) w.heap.size 42 (adc x) from Blk.new w _ _)
  have L1 := Lib.hid (bel_new (Below.refl w.heap.size w) (.cells (adc x).toArray 42))
  have HI2 := Lib.hid (show (Try.prog.info? 42).map (·.size) = some (adc x).length from infoAdS15)
  have HT2 := Lib.hid (fun W => theirs15_calls x W)
  unfold Back15 at HT2
  clear hx
  go_enter Try.func8, Try.ntmps8
  go_upto_region 1 with fail
  generalize w.alloc (.cells (adc x).toArray 42) = w1 at *
  go_wp2_with fail
  ((with_reducible refine (alive15_calls w1).mono ?_))
  rintro e w2 ⟨rfl, hb⟩
  have AB2 := Lib.hid (AB1.out.below hb)
  have L2 := Lib.hid (L1.out.trans (hb.mono L1.out.size))
  clear hb AB1 L1
  go_upto_region 4 with fail
  have hb1 := bel_new (Below.refl w2.heap.size w2) (.cells #[.bool false, .slice none 0 0] 66)
  have hb2 := bel_new hb1 (.cells #[.pointer none, .pointer (some ⟨w2.heap.size, 0, none⟩)] 27)
  have AB3 := Lib.hid (show Blk ((w2.alloc (.cells #[.bool false, .slice none 0 0] 66)).alloc (.cells #[.pointer none, .pointer (some ⟨w2.heap.size, 0, none⟩)] 27)) w.heap.size 42 (adc x) from AB2.out.below hb2)
  have L3 := Lib.hid (show Below w.heap.size w ((w2.alloc (.cells #[.bool false, .slice none 0 0] 66)).alloc (.cells #[.pointer none, .pointer (some ⟨w2.heap.size, 0, none⟩)] 27)) from L2.out.trans (hb2.mono L2.out.size))
  have ZB3 := Lib.hid (show Blk ((w2.alloc (.cells #[.bool false, .slice none 0 0] 66)).alloc (.cells #[.pointer none, .pointer (some ⟨w2.heap.size, 0, none⟩)] 27)) w2.heap.size 66 [.bool false, .slice none 0 0] from (Blk.new w2 66 [.bool false, .slice none 0 0]).alloc _)
  have PB3 := Lib.hid (show Blk ((w2.alloc (.cells #[.bool false, .slice none 0 0] 66)).alloc (.cells #[.pointer none, .pointer (some ⟨w2.heap.size, 0, none⟩)] 27)) (w2.heap.size + 1) 27 [.pointer none, .pointer (some ⟨w2.heap.size, 0, none⟩)] from by have := Blk.new (w2.alloc (.cells #[.bool false, .slice none 0 0] 66)) 27 [.pointer none, .pointer (some ⟨w2.heap.size, 0, none⟩)]; simpa using this)
  clear hb1 hb2 AB2 L2
  generalize ((w2.alloc (.cells #[.bool false, .slice none 0 0] 66)).alloc (.cells #[.pointer none, .pointer (some ⟨w2.heap.size, 0, none⟩)] 27)) = w3 at *
  generalize w2.heap.size = qz at *
  clear w2
  go_wp2_with fail
  go_loopw [17] (fun t W => ∃ i : Nat, i ≤ 2 ∧ t = .int .i64 (i : Int) ∧ Blk W w.heap.size 42 (adc x) ∧ Blk W qz 66 [.bool false, .slice none 0 0] ∧ Blk W (qz + 1) 27 [.pointer none, .pointer (some ⟨qz, 0, none⟩)] ∧ Below w.heap.size w W) (fun t W => 2 - (intOf t).toNat)
  case atStart => exact ⟨0, by omega, rfl, AB3.out, ZB3.out, PB3.out, L3.out⟩
  case round =>
    clear AB3 ZB3 PB3 L3
    obtain ⟨i, hi, rfl, hab, hzb, hpb, hl⟩ := hrel
    have AB := Lib.hid hab
    have ZB := Lib.hid hzb
    have PBB := Lib.hid hpb
    have L := Lib.hid hl
    clear hab hzb hpb hl
    by_cases hi2 : i < 2
    · obtain ⟨P, hP, hno⟩ : ∃ P, wr.cell? ⟨qz + 1, i, none⟩ = some (.pointer P) ∧ ∀ W, Below wr.heap.size wr W → No15 P W := by
        rcases (show i = 0 ∨ i = 1 by omega) with rfl | rfl
        · exact ⟨none, PBB.out.cell 0, fun W _ => no15_nil W⟩
        · exact ⟨some ⟨qz, 0, none⟩, PBB.out.cell 1, fun W hW => no15_zero (ZB.out.below hW)⟩
      have HNO := Lib.hid hno
      have HI := Lib.hid hi2
      have i1 : (i : Int) < 2 := by omega
      clear hno hi2 hi
      go_wp2_with (refine step_load (o := ⟨some 23, _, _, _, _, _⟩) rfl rfl rfl AB.out Try.underlying42 rfl HI2.out ?_)
      ((with_reducible refine (HT2.out wr).mono ?_))
      rintro e v1 ⟨rfl, hb1⟩
      have B1 := Lib.hid hb1
      clear hb1 hP
      go_wp2_with fail
      ((with_reducible refine (noapply15 P v1 (HNO.out v1 B1.out) x).mono ?_))
      rintro e v2 ⟨rfl, hb2⟩
      have B2 := Lib.hid (B1.out.trans (hb2.mono B1.out.size))
      clear hb2 B1
      go_wp2_with fail
      ((with_reducible refine (noall15 P v2 (HNO.out v2 B2.out)).mono ?_))
      rintro e v3 ⟨rfl, rfl⟩
      go_wp2_with fail
      ((with_reducible refine (nocopy15 P v2 (HNO.out v2 B2.out)).mono ?_))
      rintro e v3 ⟨rfl, rfl⟩
      go_wp2_with fail
      go_roundw
      case rel => exact ⟨i + 1, by have := HI.out; omega, by first | rfl | (simp; omega), AB.out.below B2.out, ZB.out.below B2.out, PBB.out.below B2.out, L.out.trans (B2.out.mono L.out.size)⟩
      case measure => have := HI.out; simp [intOf]; omega
    · obtain rfl : i = 2 := by omega
      clear hi hi2 AB ZB PBB HT2 HI2
      generalize wr = w4 at *
      have KB0 := Lib.hid (show Blk (w4.alloc (.cells #[.int .i64 0, .int .i64 1, .int .u64 9, .int .i64 1, .int .u32 0] 37)) w4.heap.size 37 (lkc ⟨0, 1, 9, 1, 0⟩) from Blk.new w4 _ (lkc ⟨0, 1, 9, 1, 0⟩))
      have L5 := Lib.hid (bel_new L.out (.cells #[.int .i64 0, .int .i64 1, .int .u64 9, .int .i64 1, .int .u32 0] 37))
      have HQ := Lib.hid L.out.size
      go_upto_region 11 with fail
      generalize w4.alloc (.cells #[.int .i64 0, .int .i64 1, .int .u64 9, .int .i64 1, .int .u32 0] 37) = w5 at *
      generalize w4.heap.size = qk at *
      clear L
      have hn := new15_yes 2 (some ⟨qk, 0, none⟩) 1 1 [⟨0, 1, 9, 1, 0⟩] (by decide) w5 (row_link15 KB0.out) (by omega) (by omega) (by omega) (by decide)
      have HN := Lib.hid hn
      clear hn
      go_wp2_with fail
      ((with_reducible refine HN.out.mono ?_))
      intro e w6 h
      obtain ⟨q, S, rfl, lv, hb, hs⟩ := Liv.start L5.out h
      rw [al_new] at lv
      have VB := Lib.hid lv
      have KB := Lib.hid (KB0.out.below hb)
      have NS := Lib.hid (show qk ∉ S from fun h9 => by have := hs _ h9; have := KB0.out.lt; omega)
      clear lv hb hs h HN KB0 L5
      have hc := copy15_calls q [al0] S w6 VB.out.bas
      unfold Cp15 at hc
      have HC := Lib.hid hc
      clear hc
      go_wp2_with fail
      ((with_reducible refine HC.out.mono ?_))
      intro e w7 h
      obtain ⟨q2, S2, rfl, hc7, hs7, hb7⟩ := h
      have DBC := Lib.hid (show ∀ y ∈ S, y ∉ S2 from fun y hy h9 => by have := VB.out.bas.lt y hy; have := hs7 y h9; omega)
      have VC := Lib.hid (show Liv w w7 q2 [al0] S2 from ⟨hc7, fun y hy => Nat.le_trans VB.out.bel.size (hs7 y hy), VB.out.bel.trans (hb7.mono VB.out.bel.size)⟩)
      have NS2 := Lib.hid (show qk ∉ S2 from fun h9 => by have := hs7 _ h9; have := KB.out.lt; omega)
      have VB := Lib.hid (VB.out.below hb7)
      have KB := Lib.hid (KB.out.below hb7)
      clear hc7 hs7 hb7 HC
      have y0 : w7.cell? ⟨qk, 0, none⟩ = some (.int .i64 0) := KB.out.cell 0
      have y1 : w7.cell? ⟨qk, 1, none⟩ = some (.int .i64 1) := KB.out.cell 1
      have y2 : w7.cell? ⟨qk, 2, none⟩ = some (.int .u64 9) := KB.out.cell 2
      have y3 : w7.cell? ⟨qk, 3, none⟩ = some (.int .i64 1) := KB.out.cell 3
      have y4 : w7.cell? ⟨qk, 4, none⟩ = some (.int .u32 0) := KB.out.cell 4
      have ha : Calls Try.prog 15 #[.pointer (some ⟨q2, 0, none⟩), .agg #[.int .i64 0, .int .i64 1, .int .u64 9, .int .i64 1, .int .u32 0, .int .i64 7, .bool false, .int .u64 0, .int .u64 0, .int .u64 0, .int .u64 0, .int .u64 0, .int .u64 0, .int .u64 0, .int .u64 0]] w7 (Ap15 q2 S2 (bApply [al0] al7) w7) := apply15c_calls q2 [al0] S2 al7 al7_ok (by unfold I15; decide) w7 VC.out.bas
      rw [al_seven] at ha
      unfold Ap15 at ha
      have HA := Lib.hid ha
      clear ha
      go_wp2_with fail
      ((with_reducible refine HA.out.mono ?_))
      rintro e w8 ⟨rfl, hp, ht⟩
      have VB := Lib.hid (VB.out.beside ht DBC.out VC.out.own)
      have KB := Lib.hid (KB.out.same (ht.block _ KB.out.lt NS2.out))
      have VC := Lib.hid (VC.out.apply hp ht)
      clear hp ht HA y0 y1 y2 y3 y4
      have y2 : w8.cell? ⟨qk, 2, none⟩ = some (.int .u64 9) := KB.out.cell 2
      have f2 := KB.out.free 2
      have hst := upd_set w8 qk 2 (.int .u64 5)
      have VB9 := Lib.hid (VB.out.stored hst NS.out HQ.out)
      have VC9 := Lib.hid (VC.out.stored hst NS2.out HQ.out)
      clear hst
      go_upto_region 19 with fail
      clear y2 f2 KB VB VC
      generalize w8.setCell ⟨qk, 2, none⟩ (.int .u64 5) = w9 at *
      have ha : Calls Try.prog 20 #[.pointer (some ⟨q, 0, none⟩)] w9 (Cl15 1 [al0] w9) := all15c_calls q [al0] S w9 VB9.out.bas
      unfold Cl15 at ha
      have HA := Lib.hid ha
      clear ha
      go_wp2_with fail
      ((with_reducible refine HA.out.mono ?_))
      rintro e w10 ⟨A10, c10, rfl, acc, hb⟩
      obtain ⟨g10, rfl, hge, hg, hc⟩ := accr_cells15 adc_length acc (by decide)
      have VB := Lib.hid (VB9.out.below hb)
      have VC := Lib.hid (VC9.out.below hb)
      have NG := Lib.hid (show g10 ∉ S from fun h9 => by have := VB9.out.bas.lt _ h9; omega)
      have NG2 := Lib.hid (show g10 ∉ S2 from fun h9 => by have := VC9.out.bas.lt _ h9; omega)
      have HG := Lib.hid (show w.heap.size ≤ g10 from Nat.le_trans VB9.out.bel.size hge)
      have y5 : w10.cell? ⟨g10, 5, none⟩ = some (.int .i64 0) := hc 0 al0 rfl 5 _ rfl
      have f5 : w10.frozen? ⟨g10, 5, none⟩ = false := World.ownsRow.frozenAt acc 5
      have hst := upd_set w10 g10 5 (.int .i64 3)
      have VB11 := Lib.hid (VB.out.stored hst NG.out HG.out)
      have VC11 := Lib.hid (VC.out.stored hst NG2.out HG.out)
      clear hst hb acc hge hg hc HA VB9 VC9
      go_upto_region 21 with fail
      clear y5 f5 VB VC
      generalize w10.setCell ⟨g10, 5, none⟩ (.int .i64 3) = w11 at *
      have ha : Calls Try.prog 20 #[.pointer (some ⟨q, 0, none⟩)] w11 (Cl15 1 [al0] w11) := all15c_calls q [al0] S w11 VB11.out.bas
      unfold Cl15 at ha
      have HA := Lib.hid ha
      clear ha
      go_wp2_with fail
      ((with_reducible refine HA.out.mono ?_))
      rintro e u1 ⟨Au1, cu1, rfl, acc, hb⟩
      obtain ⟨gu1, rfl, _, _, hc⟩ := accr_cells15 adc_length acc (by decide)
      have VB11 := Lib.hid (VB11.out.below hb)
      have VC11 := Lib.hid (VC11.out.below hb)
      have zu1 : u1.cell? ⟨gu1, 5, none⟩ = some (.int .i64 0) := hc 0 al0 rfl 5 _ rfl
      clear hb acc hc HA
      have ha : Calls Try.prog 20 #[.pointer (some ⟨q, 0, none⟩)] u1 (Cl15 1 [al0] u1) := all15c_calls q [al0] S u1 VB11.out.bas
      unfold Cl15 at ha
      have HA := Lib.hid ha
      clear ha
      go_wp2_with fail
      ((with_reducible refine HA.out.mono ?_))
      rintro e u2 ⟨Au2, cu2, rfl, acc, hb⟩
      obtain ⟨gu2, rfl, _, _, hc⟩ := accr_cells15 adc_length acc (by decide)
      have VB11 := Lib.hid (VB11.out.below hb)
      have VC11 := Lib.hid (VC11.out.below hb)
      have zu2 : u2.cell? ⟨gu2, 2, none⟩ = some (.int .u64 9) := hc 0 al0 rfl 2 _ rfl
      clear hb acc hc HA
      have ha : Calls Try.prog 20 #[.pointer (some ⟨q2, 0, none⟩)] u2 (Cl15 1 [al7] u2) := all15c_calls q2 [al7] S2 u2 VC11.out.bas
      unfold Cl15 at ha
      have HA := Lib.hid ha
      clear ha
      go_wp2_with fail
      ((with_reducible refine HA.out.mono ?_))
      rintro e u3 ⟨Au3, cu3, rfl, acc, hb⟩
      obtain ⟨gu3, rfl, _, _, hc⟩ := accr_cells15 adc_length acc (by decide)
      have VB11 := Lib.hid (VB11.out.below hb)
      have VC11 := Lib.hid (VC11.out.below hb)
      have zu3 : u3.cell? ⟨gu3, 5, none⟩ = some (.int .i64 7) := hc 0 al7 rfl 5 _ rfl
      clear hb acc hc HA
      go_wp2_with fail
      go_ret
      exact ⟨rfl, VB11.out.bel⟩
end Go.Proofs.Ytmfmjdkeoiebpaa
