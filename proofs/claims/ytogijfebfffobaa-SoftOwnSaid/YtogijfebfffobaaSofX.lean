/-
  What the laws of layer 18 ask first of all (alive). No condition.
-/
import Derived.Test.YtogijfebfffobaaSofW
import Derived.Deep.CutBlock
namespace Go.Proofs.Ytogijfebfffobaa
set_option maxRecDepth 100000
set_option linter.unusedVariables false
open Go.RowKit

theorem one_may18 : may18 one18 = true := by decide
theorem one_put18 : cput18 2 [] one18 = ([one18], 0) := by
  unfold cput18
  rw [if_neg (by rw [one_may18]; simp), if_neg (by simp)]
  rfl
theorem one_late5 : late18 [one18] 5 = [] := by decide
theorem one_late6 : late18 [one18] 6 = [one18.k] := by decide
theorem one_laps4 : laps18 [one18] 4 = [one18.k] := by decide
theorem one_laps3 : laps18 [one18] 3 = [] := by decide
theorem one_drop18 : cdrop18 [one18] one18.k = ([], 0) := rfl
theorem none_drop18 : cdrop18 [] one18.k = ([], 8) := rfl
theorem one_row18 {w : World} {r : Nat} (h : Blk w r 3 [.int .i64 0, .int .i64 1, .int .i64 2]) : Row ei w w.heap.size (some ⟨r, 0, none⟩) 3 one18.rt := by
  refine ⟨rfl, fun _ => ⟨r, 0, rfl, h.lt, fun i hi => ?_⟩⟩
  rw [Nat.zero_add, h.cell i]
  have e : one18.rt.flatMap ei = [.int .i64 0, .int .i64 1, .int .i64 2] := rfl
  simp only [e] at hi ⊢
  exact List.getElem?_eq_getElem hi
theorem new18_two (w : World) : Calls Try.prog 8 #[.int .i64 2] w (New18 2 w) := new18_calls 2 (by omega) w
theorem new18_all (w : World) : Calls Try.prog 8 #[.int .i64 64] w (New18 64 w) := new18_calls 64 (by omega) w
set_option maxHeartbeats 6400000 in
theorem alive18_calls (w : World) : Calls Try.prog 7 #[] w (Yes14 true w) := by
  have HIN := Lib.hid (fun s : Ss => (show (Try.prog.info? 40).map (·.size) = some (ssc s).length from infoSsC))
  have HON := Lib.hid ssc_one
  unfold Yes14
  go_enter Try.func7, Try.ntmps7
  go_wp2_with fail
  ((with_reducible refine (new18_two w).mono ?_))
  intro e w2 hnew
  obtain ⟨q, S, rfl, st⟩ := St18.start (Below.refl _ _) hnew
  have P2 := Lib.hid st
  clear st hnew
  go_wp2_with fail
  ((with_reducible refine (one18_calls w2).mono ?_))
  rintro e w3 ⟨r, rfl, hrb, hrge, hb⟩
  have P3 := Lib.hid (P2.out.below hb)
  have HRB := Lib.hid (show BlkT w3 S r 3 [.int .i64 0, .int .i64 1, .int .i64 2] from ⟨hrb, fun hS => by have := P2.out.p.lt _ hS; omega⟩)
  clear hb hrb hrge P2
  obtain ⟨sv, hsv⟩ : ∃ sv : Ss, (⟨one18, some ⟨r, 0, none⟩, 3, 3⟩ : Ss) = sv := ⟨_, rfl⟩
  have HSV := Lib.hid hsv
  rw [hsv]
  clear hsv
  have bz := bel_new (Below.refl w3.heap.size w3) (.cells #[.int .i64 0, .int .i64 0, .int .i64 0, .int .i64 0, .int .u64 0, .int .i64 0, .int .i64 0, .int .u32 0, .int .u32 0, .int .u32 0, .slice none 0 0, .int .i64 0, .int .i64 0, .int .i64 0, .int .i64 0, .int .i64 0, .int .i64 0] 40)
  have BZ := Lib.hid (show BlkT (w3.alloc (.cells #[.int .i64 0, .int .i64 0, .int .i64 0, .int .i64 0, .int .u64 0, .int .i64 0, .int .i64 0, .int .u32 0, .int .u32 0, .int .u32 0, .slice none 0 0, .int .i64 0, .int .i64 0, .int .i64 0, .int .i64 0, .int .i64 0, .int .i64 0] 40)) S w3.heap.size 40 (ssc z18) from P3.out.newb 40 (ssc z18))
  have P4 := Lib.hid (P3.out.below bz)
  have RB4 := Lib.hid (HRB.out.below bz)
  have HW3 := Lib.hid (And.intro P3.out.bel.size HRB.out.blk.lt)
  clear bz P3 HRB
  go_upto_region 3 with ((with_reducible refine step_store (o := ⟨none, _, _, _, _, _⟩) (vs := ssc sv) (ty := 40) (x := .tmp 2) (y := .tmp 4) ?_ ?_ ?_ ?_ BZ.out.blk (HIN.out _) rfl (HON.out _) ?_); (rfl); (rfl); (rfl); (rfl); intro w5 hb5 hg5 hs5)
  have P5 := Lib.hid (P4.out.stored hg5 BZ.out.off HW3.out.1)
  have RB5 := Lib.hid (RB4.out.stored hg5 (Nat.ne_of_lt HW3.out.2))
  have V5 := Lib.hid (BlkT.mk hb5 BZ.out.off)
  clear hb5 hg5 hs5 BZ P4 RB4 HW3
  generalize w3.heap.size = qV at *
  have hmy := may18_calls sv w5 (by rw [← HSV.out]; exact one_row18 RB5.out.blk) (by rw [← HSV.out]; unfold maxLen; simp)
  rw [show may18 sv.p = true by rw [← HSV.out]; exact one_may18] at hmy
  unfold Yes14 at hmy
  have HM := Lib.hid hmy
  clear hmy
  go_wp2_with ((with_reducible refine step_load_want (o := ⟨some 8, _, _, _, _, _⟩) (x := .tmp 2) ?_ ?_ ?_ V5.out.blk Try.underlying40 ?_ (HIN.out _) ?_); (rfl); (rfl); (rfl); (rfl))
  ((with_reducible refine HM.out.mono ?_))
  rintro e w6 ⟨rfl, hb⟩
  have P6 := Lib.hid (P5.out.below hb)
  have RB6 := Lib.hid (RB5.out.below hb)
  have V6 := Lib.hid (V5.out.below hb)
  clear hb P5 RB5 V5 HM
  have hpt := put18c_calls q 2 [] S sv w6 P6.out.p (by rw [← HSV.out]; exact one_row18 RB6.out.blk) (by rw [← HSV.out]; simp)
  rw [show sv.p = one18 by rw [← HSV.out], one_put18] at hpt
  unfold Prt18 at hpt
  have HP := Lib.hid hpt
  clear hpt
  go_wp2_with ((with_reducible refine step_load_want (o := ⟨some 14, _, _, _, _, _⟩) (x := .tmp 2) ?_ ?_ ?_ V6.out.blk Try.underlying40 ?_ (HIN.out _) ?_); (rfl); (rfl); (rfl); (rfl))
  ((with_reducible refine HP.out.mono ?_))
  rintro e w7 ⟨S2, rfl, hp, hm⟩
  have P7 := Lib.hid (P6.out.mv hp hm)
  have V7 := Lib.hid (V6.out.mv hm)
  clear hp hm P6 RB6 V6 HP
  have hln := len18_calls q 2 [one18] S2 w7 P7.out.p
  have HLN := Lib.hid (show Calls Try.prog 23 #[.pointer (some ⟨q, 0, none⟩)] w7 fun e w' => e = .returned (.int .i64 1) ∧ w' = w7 from hln)
  clear hln
  go_wp2_with fail
  ((with_reducible refine HLN.out.mono ?_))
  rintro e w8 ⟨rfl, rfl⟩
  clear HLN
  have hk := late18c_calls q 2 [one18] S2 5 w8 P7.out.p
  rw [one_late5] at hk
  unfold Kys18 at hk
  have HK := Lib.hid hk
  clear hk
  go_wp2_with fail
  ((with_reducible refine HK.out.mono ?_))
  rintro e w9 ⟨A1, c1, rfl, hacc, hb⟩
  have Pn := Lib.hid (P7.out.below hb)
  have Vn := Lib.hid (V7.out.below hb)
  clear hacc hb P7 V7 HK
  have P7 := Lib.hid Pn.out
  have V7 := Lib.hid Vn.out
  clear Pn Vn
  have hk := late18c_calls q 2 [one18] S2 6 w9 P7.out.p
  rw [one_late6] at hk
  unfold Kys18 at hk
  have HK := Lib.hid hk
  clear hk
  go_wp2_with fail
  ((with_reducible refine HK.out.mono ?_))
  rintro e w10 ⟨A1, c1, rfl, hacc, hb⟩
  have Pn := Lib.hid (P7.out.below hb)
  have Vn := Lib.hid (V7.out.below hb)
  clear hacc hb P7 V7 HK
  have P7 := Lib.hid Pn.out
  have V7 := Lib.hid Vn.out
  clear Pn Vn
  have hk := lapsed18c_calls q 2 [one18] S2 4 w10 P7.out.p
  rw [one_laps4] at hk
  unfold Kys18 at hk
  have HK := Lib.hid hk
  clear hk
  go_wp2_with fail
  ((with_reducible refine HK.out.mono ?_))
  rintro e w11 ⟨A1, c1, rfl, hacc, hb⟩
  have Pn := Lib.hid (P7.out.below hb)
  have Vn := Lib.hid (V7.out.below hb)
  clear hacc hb P7 V7 HK
  have P7 := Lib.hid Pn.out
  have V7 := Lib.hid Vn.out
  clear Pn Vn
  have hk := lapsed18c_calls q 2 [one18] S2 3 w11 P7.out.p
  rw [one_laps3] at hk
  unfold Kys18 at hk
  have HK := Lib.hid hk
  clear hk
  go_wp2_with fail
  ((with_reducible refine HK.out.mono ?_))
  rintro e w12 ⟨A1, c1, rfl, hacc, hb⟩
  have Pn := Lib.hid (P7.out.below hb)
  have Vn := Lib.hid (V7.out.below hb)
  clear hacc hb P7 V7 HK
  have P7 := Lib.hid Pn.out
  have V7 := Lib.hid Vn.out
  clear Pn Vn
  have x0 : w12.cell? ⟨qV, 0, none⟩ = some (.int .i64 sv.p.k.tail) := V7.out.blk.cell 0
  have x1 : w12.cell? ⟨qV, 1, none⟩ = some (.int .i64 sv.p.k.tun) := V7.out.blk.cell 1
  have x2 : w12.cell? ⟨qV, 2, none⟩ = some (.int .i64 sv.p.k.head) := V7.out.blk.cell 2
  have x3 : w12.cell? ⟨qV, 3, none⟩ = some (.int .i64 sv.p.k.lsp) := V7.out.blk.cell 3
  have hdc := drop18c_calls q 2 [one18] S2 sv.p.k w12 P7.out.p
  rw [show sv.p = one18 by rw [← HSV.out]] at hdc x0 x1 x2 x3
  rw [one_drop18] at hdc
  unfold Prt18 at hdc
  have HD := Lib.hid hdc
  clear hdc
  go_wp2_with fail
  ((with_reducible refine HD.out.mono ?_))
  rintro e w13 ⟨S3, rfl, hp, hm⟩
  have P13 := Lib.hid (P7.out.mv hp hm)
  have V13 := Lib.hid (V7.out.mv hm)
  clear hp hm P7 V7 HD x0 x1 x2 x3
  have x0 : w13.cell? ⟨qV, 0, none⟩ = some (.int .i64 sv.p.k.tail) := V13.out.blk.cell 0
  have x1 : w13.cell? ⟨qV, 1, none⟩ = some (.int .i64 sv.p.k.tun) := V13.out.blk.cell 1
  have x2 : w13.cell? ⟨qV, 2, none⟩ = some (.int .i64 sv.p.k.head) := V13.out.blk.cell 2
  have x3 : w13.cell? ⟨qV, 3, none⟩ = some (.int .i64 sv.p.k.lsp) := V13.out.blk.cell 3
  have hdc := drop18c_calls q 2 [] S3 sv.p.k w13 P13.out.p
  rw [show sv.p = one18 by rw [← HSV.out]] at hdc x0 x1 x2 x3
  rw [none_drop18] at hdc
  unfold Prt18 at hdc
  have HD := Lib.hid hdc
  clear hdc
  go_wp2_with fail
  ((with_reducible refine HD.out.mono ?_))
  rintro e w14 ⟨S4, rfl, hp, hm⟩
  have P14 := Lib.hid (P13.out.mv hp hm)
  clear hp hm P13 V13 HD x0 x1 x2 x3
  go_wp2_with fail
  go_ret
  exact ⟨rfl, P14.out.bel⟩
end Go.Proofs.Ytogijfebfffobaa
