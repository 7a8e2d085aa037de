/-
  What the laws of layer 17 ask first of all (alive), under what the code must keep. Condition: FindOk17.
-/
import Derived.Test.YtjflbfianncpfaaCspA
import Derived.Test.YtjflbfianncpfaaGraphDL
namespace Go.Proofs.Ytjflbfianncpfaa
set_option maxRecDepth 100000
set_option linter.unusedVariables false
open Go.RowKit

def lz17 : List Nat := [0, 0, 0, 0, 0, 0, 0, 0]
theorem al17_map : al17 = ll17.map (fun x => ⟨x, 0, true, lz17⟩) := rfl
theorem row_ints17 {w : World} (T : TypeId) (l : List Int) (cs : Array Value) (hc : cs = (l.map (Value.int .i64)).toArray) : Row ei (w.alloc (.cells cs T)) (w.alloc (.cells cs T)).heap.size (some ⟨w.heap.size, 0, none⟩) l.length l := by
  subst hc
  have hb := Blk.new w T (l.map (Value.int .i64))
  refine ⟨rfl, fun _ => ⟨w.heap.size, 0, rfl, hb.lt, fun i hi => ?_⟩⟩
  rw [Nat.zero_add, hb.cell i, ← ei_flat]
  exact List.getElem?_eq_getElem hi
set_option maxHeartbeats 6400000 in
theorem alive17_calls (hF : FindOk17) (w : World) : Calls Try.prog 9 #[] w fun e w' => e = .returned (.bool true) ∧ Below w.heap.size w w' := by
  have hb := bel_new (Below.refl w.heap.size w) (.cells #[.int .i64 0, .int .i64 1, .int .u64 0, .int .i64 1, .int .u32 0, .int .i64 1, .int .i64 2, .int .u64 0, .int .i64 1, .int .u32 0, .int .i64 2, .int .i64 3, .int .u64 0, .int .i64 1, .int .u32 0, .int .i64 0, .int .i64 3, .int .u64 0, .int .i64 5, .int .u32 0] 53)
  have HRL := Lib.hid (show Row lkc (w.alloc (.cells #[.int .i64 0, .int .i64 1, .int .u64 0, .int .i64 1, .int .u32 0, .int .i64 1, .int .i64 2, .int .u64 0, .int .i64 1, .int .u32 0, .int .i64 2, .int .i64 3, .int .u64 0, .int .i64 1, .int .u32 0, .int .i64 0, .int .i64 3, .int .u64 0, .int .i64 5, .int .u32 0] 53)) (w.alloc (.cells #[.int .i64 0, .int .i64 1, .int .u64 0, .int .i64 1, .int .u32 0, .int .i64 1, .int .i64 2, .int .u64 0, .int .i64 1, .int .u32 0, .int .i64 2, .int .i64 3, .int .u64 0, .int .i64 1, .int .u32 0, .int .i64 0, .int .i64 3, .int .u64 0, .int .i64 5, .int .u32 0] 53)).heap.size (some ⟨w.heap.size, 0, none⟩) 4 ll17 from by
    have hb2 : Blk (w.alloc (.cells #[.int .i64 0, .int .i64 1, .int .u64 0, .int .i64 1, .int .u32 0, .int .i64 1, .int .i64 2, .int .u64 0, .int .i64 1, .int .u32 0, .int .i64 2, .int .i64 3, .int .u64 0, .int .i64 1, .int .u32 0, .int .i64 0, .int .i64 3, .int .u64 0, .int .i64 5, .int .u32 0] 53)) w.heap.size 53 (ll17.flatMap lkc) := Blk.new w _ (ll17.flatMap lkc)
    refine ⟨rfl, fun _ => ⟨w.heap.size, 0, rfl, hb2.lt, fun i hi => ?_⟩⟩
    rw [Nat.zero_add, hb2.cell i]
    exact List.getElem?_eq_getElem hi)
  have HL := Lib.hid hb
  clear hb
  go_enter Try.func9, Try.ntmps9
  go_upto_region 3 with fail
  generalize w.alloc (.cells #[.int .i64 0, .int .i64 1, .int .u64 0, .int .i64 1, .int .u32 0, .int .i64 1, .int .i64 2, .int .u64 0, .int .i64 1, .int .u32 0, .int .i64 2, .int .i64 3, .int .u64 0, .int .i64 1, .int .u32 0, .int .i64 0, .int .i64 3, .int .u64 0, .int .i64 5, .int .u32 0] 53) = w1 at *
  go_loopw [1, 16] (fun s u W => ∃ (i c : Nat) (A : Option Addr), i ≤ 4 ∧ s = .slice A i c ∧ u = .int .i64 (i : Int) ∧ AccT15 W w1.heap.size A c (al17.take i) ∧ Below w1.heap.size w1 W) (fun s u W => 4 - (intOf u).toNat)
  case atStart => exact ⟨0, 0, none, by omega, rfl, rfl, AccR.nil _ _ _, Below.refl _ _⟩
  case round =>
    obtain ⟨i, c, A, hi, rfl, rfl, hac, hbl⟩ := hrel
    have HAC := Lib.hid hac
    have HBL := Lib.hid hbl
    clear hac hbl
    by_cases hin : i < 4
    · have i1 : (i : Int) < 4 := by omega
      obtain ⟨b, o, x, e, hx, hbb, hc⟩ := cells15 lkc_length HRL.out hin
      injection e with e
      injection e with e1 e2
      subst e1
      subst e2
      have HXA := Lib.hid (show al17[i]? = some ⟨x, 0, true, lz17⟩ from by rw [al17_map, List.getElem?_map, hx]; rfl)
      have HII := Lib.hid hin
      have z0 : wr.cell? ⟨w.heap.size, i * 5, none⟩ = some (.int .i64 x.f) := by have := hc wr HBL.out 0 _ rfl; simpa using this
      have z1 : wr.cell? ⟨w.heap.size, i * 5 + 1, none⟩ = some (.int .i64 x.t) := by have := hc wr HBL.out 1 _ rfl; simpa using this
      have z2 : wr.cell? ⟨w.heap.size, i * 5 + 2, none⟩ = some (.int .u64 x.c) := by have := hc wr HBL.out 2 _ rfl; simpa using this
      have z3 : wr.cell? ⟨w.heap.size, i * 5 + 3, none⟩ = some (.int .i64 x.m) := by have := hc wr HBL.out 3 _ rfl; simpa using this
      have z4 : wr.cell? ⟨w.heap.size, i * 5 + 4, none⟩ = some (.int .u32 x.g) := by have := hc wr HBL.out 4 _ rfl; simpa using this
      clear hx hbb hc hin hi
      go_upto_region 5 with fail
      clear z0 z1 z2 z3 z4
      have hb := bel_new (Below.refl wr.heap.size wr) (.cells #[.int .i64 x.f, .int .i64 x.t, .int .u64 x.c, .int .i64 x.m, .int .u32 x.g] 53)
      have H5 := Lib.hid (show Blk (wr.alloc (.cells #[.int .i64 x.f, .int .i64 x.t, .int .u64 x.c, .int .i64 x.m, .int .u32 x.g] 53)) wr.heap.size 53 (lkc x) from Blk.new wr _ (lkc x))
      have L5 := Lib.hid (HBL.out.trans (hb.mono HBL.out.size))
      have A5 := Lib.hid (AccR.bel HAC.out hb)
      clear hb HBL HAC
      generalize wr.alloc _ = w5 at *
      generalize wr.heap.size = qx at *
      have y0 : w5.cell? ⟨qx, 0, none⟩ = some (.int .i64 x.f) := H5.out.cell 0
      have y1 : w5.cell? ⟨qx, 1, none⟩ = some (.int .i64 x.t) := H5.out.cell 1
      have y2 : w5.cell? ⟨qx, 2, none⟩ = some (.int .u64 x.c) := H5.out.cell 2
      have y3 : w5.cell? ⟨qx, 3, none⟩ = some (.int .i64 x.m) := H5.out.cell 3
      have y4 : w5.cell? ⟨qx, 4, none⟩ = some (.int .u32 x.g) := H5.out.cell 4
      have hlen : (al17.take i).length = i := by rw [List.length_take]; have := HII.out; have : al17.length = 4 := rfl; omega
      obtain ⟨A8, c8, w8, r8, a8, g8⟩ := acct15_push A5.out ⟨x, 0, true, lz17⟩ L5.out.size (by rw [hlen]; have := HII.out; omega)
      rw [hlen] at r8
      rw [← take_snoc15 HXA.out] at a8
      have r8' : (Builtin.append_ #[55, 55] 55 #[.slice A i c, .slice (some ⟨w5.heap.size, 0, none⟩) 1 1]).run Try.prog (w5.alloc (.cells #[.int .i64 x.f, .int .i64 x.t, .int .u64 x.c, .int .i64 x.m, .int .u32 x.g, .int .i64 0, .bool true, .int .u64 0, .int .u64 0, .int .u64 0, .int .u64 0, .int .u64 0, .int .u64 0, .int .u64 0, .int .u64 0] 58)) = .ok (.slice A8 (i + 1) c8) w8 := r8
      have B8 := Lib.hid (show Below w1.heap.size w1 w8 from belr_acc L5.out A5.out g8)
      have A8' := Lib.hid a8
      have R8 := Lib.hid r8'
      clear r8 r8' a8 g8 hlen
      go_wp2_with (at_builtin; refine step_append (o := ⟨some 24, _, _, _, _, _⟩) rfl rfl rfl rfl R8.out ?_)
      go_roundw
      case rel => exact ⟨i + 1, c8, A8, HII.out, by first | rfl | (simp; omega), by first | rfl | (simp; omega), A8'.out, B8.out⟩
      case measure => have := HII.out; simp [intOf]; omega
    · obtain rfl : i = 4 := by omega
      have L2 := Lib.hid (HL.out.trans (HBL.out.mono HL.out.size))
      have R2 := Lib.hid (show Row adc wr wr.heap.size A 4 al17 from AccR.row HAC.out)
      clear hin hi HBL HAC HRL
      have hth := theirs16_calls ak17 ⟨none, 0, 0, none, 0, 0, none, 0, 0, 0⟩ wr ⟨Row.nil, Row.nil, Row.nil, by simp, by simp, by simp⟩
      have hth2 : Calls Try.prog 20 #[.agg #[.int .u64 0, .int .i64 0, .int .i64 0, .int .u32 0, .int .u32 0, .int .u32 0, .slice none 0 0, .slice none 0 0, .slice none 0 0, .int .i64 0]] wr (Th16 ak17 ⟨none, 0, 0, none, 0, 0, none, 0, 0, 0⟩ wr) := hth
      unfold Th16 at hth2
      have HTH := Lib.hid hth2
      clear hth hth2
      go_wp2_with fail
      ((with_reducible refine HTH.out.mono ?_))
      rintro e w3 ⟨A3, c3, rfl, hac, hb⟩
      have L3 := Lib.hid (L2.out.trans (hb.mono L2.out.size))
      have R3 := Lib.hid ((R2.out.below hb).more hb.size)
      have hfi := hF 4 0 3 A 4 c al17 ak17 (pl16 ⟨none, 0, 0, none, 0, 0, none, 0, 0, 0⟩ A3 0 c3) w3 al17_ok (no16 w3 w016 ⟨by decide, by decide, by decide⟩).1 (Th16.akin (p := ⟨none, 0, 0, none, 0, 0, none, 0, 0, 0⟩) ⟨Row.nil, Row.nil, Row.nil, by simp, by simp, by simp⟩ hac hb) R3.out (by omega) (by unfold I15; decide) (by unfold I15; decide) (by unfold I15; decide) (show I15 0 by unfold I15; decide)
      unfold Fnd17 at hfi
      have HFI := Lib.hid hfi
      clear hb hac hfi HTH L2 R2
      go_wp2_with fail
      ((with_reducible refine HFI.out.mono ?_))
      rintro e w4 ⟨A4, c4, r, co, er, rfl, hac, hb, hcs⟩
      obtain ⟨rfl, rfl, rfl⟩ := al17_one hcs
      have L4 := Lib.hid (L3.out.trans (hb.mono L3.out.size))
      have R4 := Lib.hid ((R3.out.below hb).more hb.size)
      have G4 := Lib.hid (show Row ei w4 w4.heap.size A4 4 [0, 1, 2, 3] from AccR.row hac)
      have hth := theirs16_calls ak17 ⟨none, 0, 0, none, 0, 0, none, 0, 0, 2⟩ w4 ⟨Row.nil, Row.nil, Row.nil, by simp, by simp, by simp⟩
      have hth2 : Calls Try.prog 20 #[.agg #[.int .u64 0, .int .i64 0, .int .i64 0, .int .u32 0, .int .u32 0, .int .u32 0, .slice none 0 0, .slice none 0 0, .slice none 0 0, .int .i64 2]] w4 (Th16 ak17 ⟨none, 0, 0, none, 0, 0, none, 0, 0, 2⟩ w4) := hth
      unfold Th16 at hth2
      have HTH := Lib.hid hth2
      clear hth hth2 hac hb hcs HFI L3 R3
      go_wp2_with fail
      ((with_reducible refine HTH.out.mono ?_))
      rintro e w5 ⟨A5, c5, rfl, hac, hb⟩
      have L5 := Lib.hid (L4.out.trans (hb.mono L4.out.size))
      have R5 := Lib.hid ((R4.out.below hb).more hb.size)
      have G5 := Lib.hid ((G4.out.below hb).more hb.size)
      have hfi := hF 4 0 3 A 4 c al17 ak17 (pl16 ⟨none, 0, 0, none, 0, 0, none, 0, 0, 2⟩ A5 0 c5) w5 al17_ok (no16 w5 w016 ⟨by decide, by decide, by decide⟩).1 (Th16.akin (p := ⟨none, 0, 0, none, 0, 0, none, 0, 0, 2⟩) ⟨Row.nil, Row.nil, Row.nil, by simp, by simp, by simp⟩ hac hb) R5.out (by omega) (by unfold I15; decide) (by unfold I15; decide) (by unfold I15; decide) (show I15 2 by unfold I15; decide)
      unfold Fnd17 at hfi
      have HFI := Lib.hid hfi
      clear hb hac hfi HTH L4 R4 G4
      go_wp2_with fail
      ((with_reducible refine HFI.out.mono ?_))
      rintro e w6 ⟨A6, c6, r, co, er, rfl, hac, hb, hcs⟩
      obtain ⟨rfl, rfl, rfl⟩ := al17_two hcs
      have L6 := Lib.hid (L5.out.trans (hb.mono L5.out.size))
      have G6 := Lib.hid ((G5.out.below hb).more hb.size)
      have K6 := Lib.hid (show Row ei w6 w6.heap.size A6 2 [0, 3] from AccR.row hac)
      clear hac hb hcs HFI L5 R5 G5
      have hb := bel_new (Below.refl w6.heap.size w6) (.cells #[.int .i64 0, .int .i64 1, .int .i64 2, .int .i64 3] 3)
      have hI := sameints_calls A4 (some ⟨w6.heap.size, 0, none⟩) 4 4 c4 4 _ _ [0, 1, 2, 3] [0, 1, 2, 3] (w6.alloc (.cells #[.int .i64 0, .int .i64 1, .int .i64 2, .int .i64 3] 3)) ((G6.out.below hb).more hb.size) (row_ints17 3 [0, 1, 2, 3] _ rfl) (by omega) (by omega)
      rw [decide_eq_true rfl] at hI
      have HI := Lib.hid hI
      have L7 := Lib.hid (L6.out.trans (hb.mono L6.out.size))
      have K7 := Lib.hid ((K6.out.below hb).more hb.size)
      clear hb hI L6 K6 G6
      go_wp2_with fail
      ((with_reducible refine HI.out.mono ?_))
      rintro e w8 ⟨rfl, j, rfl⟩
      have L8 := Lib.hid (bel_drewN L7.out j)
      have K8 := Lib.hid (show Row ei ((w6.alloc (.cells #[.int .i64 0, .int .i64 1, .int .i64 2, .int .i64 3] 3)).drewN j) ((w6.alloc (.cells #[.int .i64 0, .int .i64 1, .int .i64 2, .int .i64 3] 3)).drewN j).heap.size A6 2 [0, 3] from K7.out.drewN j)
      clear HI L7 K7
      generalize ((w6.alloc (.cells #[.int .i64 0, .int .i64 1, .int .i64 2, .int .i64 3] 3)).drewN j) = w8 at *
      have hb := bel_new (Below.refl w8.heap.size w8) (.cells #[.int .i64 0, .int .i64 3] 3)
      have hI := sameints_calls A6 (some ⟨w8.heap.size, 0, none⟩) 2 2 c6 2 _ _ [0, 3] [0, 3] (w8.alloc (.cells #[.int .i64 0, .int .i64 3] 3)) ((K8.out.below hb).more hb.size) (row_ints17 3 [0, 3] _ rfl) (by omega) (by omega)
      rw [decide_eq_true rfl] at hI
      have HI := Lib.hid hI
      have L9 := Lib.hid (L8.out.trans (hb.mono L8.out.size))
      clear hb hI
      go_wp2_with fail
      ((with_reducible refine HI.out.mono ?_))
      rintro e w9 ⟨rfl, j2, rfl⟩
      have L10 := Lib.hid (bel_drewN L9.out j2)
      clear HI L9
      go_wp2_with fail
      go_ret
      exact ⟨rfl, L10.out⟩
end Go.Proofs.Ytjflbfianncpfaa
