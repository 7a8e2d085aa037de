/-
  The law SoftOwn, walked: for any state and any tick the answer is true, and nothing that was there has turned. Condition: none.
-/
import Derived.Test.YtogijfebfffobaaSofN
import Derived.Test.YtogijfebfffobaaSofX
import Derived.Test.YtogijfebfffobaaSofOpen
import Derived.Deep.CutBlock
namespace Go.Proofs.Ytogijfebfffobaa
set_option maxRecDepth 100000
set_option linter.unusedVariables false
open Go.RowKit

/-- A route that a call gathered: its second node may be written over. -/
theorem acc_cell18 {w : World} {base c : Nat} {A : Option Addr} (h : AccI w base A c [0, 1, 2]) : ∃ g, A = some ⟨g, 0, none⟩ ∧ base ≤ g ∧ g < w.heap.size ∧ w.cell? ⟨g, 1, none⟩ = some (.int .i64 1) ∧ w.frozen? ⟨g, 1, none⟩ = false := by
  obtain ⟨g, rfl⟩ := accr_addr15 h (by simp)
  have hg := AccR.ge h (x := g) rfl
  exact ⟨g, rfl, hg.1, hg.2, World.ownsRow.cellAt h 1 (by simp), World.ownsRow.frozenAt h _⟩
theorem acc_one18 {w : World} {base c : Nat} {A : Option Addr} {T : TypeId} {z : Ss} (h : AccR ssc 17 w base T A c [z]) : ∃ g, A = some ⟨g, 0, none⟩ ∧ base ≤ g ∧ g < w.heap.size ∧ w.cell? ⟨g, 10, none⟩ = some (.slice z.a z.n z.c) := by
  obtain ⟨g, rfl⟩ := accr_addr15 h (by simp)
  have hg := AccR.ge h (x := g) rfl
  exact ⟨g, rfl, hg.1, hg.2, World.ownsRow.cellAt h 10 (by simp)⟩
theorem one_get18 : get18 Sp.k [one18] ⟨2, 1, 0, 1⟩ = some one18 := rfl
set_option maxHeartbeats 12800000 in
theorem own18_walk (s : Ss) (now : Int) (w0 : World) (hs0 : Lies18 w0 s) :
    Calls Try.prog 5 #[.agg (ssc s).toArray, .int .i64 now] w0 fun e w' => e = .returned (.bool true) ∧ Below w0.heap.size w0 w' := by
  have bz := bel_new (Below.refl w0.heap.size w0) (.cells (ssc s).toArray 37)
  have HBX := Lib.hid (Blk.new w0 37 (ssc s))
  have HL0 := Lib.hid bz
  have hal := fun W => alive18_calls W
  unfold Yes14 at hal
  have HAL := Lib.hid hal
  have HIN := Lib.hid (fun s : Ss => (show (Try.prog.info? 40).map (·.size) = some (ssc s).length from infoSsC))
  have HIR := Lib.hid (fun s : Ss => (show (Try.prog.info? 37).map (·.size) = some (ssc s).length from infoSsR))
  have HON := Lib.hid ssc_one
  clear hs0 hal bz
  go_enter Try.func5, Try.ntmps5
  go_upto_region 1 with fail
  generalize (w0.alloc (.cells (ssc s).toArray 37)) = w at *
  go_wp2_with fail
  ((with_reducible refine (HAL.out _).mono ?_))
  rintro e w2 ⟨rfl, b1⟩
  have hbt : Blk ((w2.alloc (.cells #[.int .i64 0, .slice none 0 0] 68)).alloc (.cells #[.pointer none, .pointer (some ⟨w2.heap.size, 0, none⟩)] 24)) w2.heap.size 68 [.int .i64 0, .slice none 0 0] := (Blk.new w2 68 [.int .i64 0, .slice none 0 0]).alloc _
  have hba : Blk ((w2.alloc (.cells #[.int .i64 0, .slice none 0 0] 68)).alloc (.cells #[.pointer none, .pointer (some ⟨w2.heap.size, 0, none⟩)] 24)) (w2.alloc (.cells #[.int .i64 0, .slice none 0 0] 68)).heap.size 24 [.pointer none, .pointer (some ⟨w2.heap.size, 0, none⟩)] := Blk.new (w2.alloc (.cells #[.int .i64 0, .slice none 0 0] 68)) 24 [.pointer none, .pointer (some ⟨w2.heap.size, 0, none⟩)]
  rw [show (w2.alloc (.cells #[.int .i64 0, .slice none 0 0] 68)).heap.size = w2.heap.size + 1 by simp] at hba
  have HBT := Lib.hid hbt
  have HBA := Lib.hid hba
  have B1 := Lib.hid (bel_new (bel_new b1 (.cells #[.int .i64 0, .slice none 0 0] 68)) (.cells #[.pointer none, .pointer (some ⟨w2.heap.size, 0, none⟩)] 24))
  clear b1 HAL hbt hba
  go_wp2_with fail
  generalize ((w2.alloc (.cells #[.int .i64 0, .slice none 0 0] 68)).alloc (.cells #[.pointer none, .pointer (some ⟨w2.heap.size, 0, none⟩)] 24)) = w3 at *
  generalize w2.heap.size + 1 = bA at *
  generalize w2.heap.size = bT at *
  go_loopw [20] (fun u W => ∃ i : Nat, i ≤ 2 ∧ u = .int .i64 (i : Int) ∧ Hid (Below w3.heap.size w3 W)) (fun u W => 2 - (intOf u).toNat)
  case atStart => exact ⟨0, by omega, rfl, Lib.hid (Below.refl _ _)⟩
  case round =>
    obtain ⟨i, hi, rfl, HB⟩ := hrel
    by_cases hin : i < 2
    · have i1 : (i : Int) < 2 := by omega
      have i0 : ¬ (i : Int) < 0 := by omega
      obtain ⟨v, hv, hnm⟩ : ∃ v, wr.cell? ⟨bA, i, none⟩ = some v ∧ Nm18 wr v := by
        have h1 := (HBA.out.below HB.out).cell i
        rcases (show i = 0 ∨ i = 1 by omega) with rfl | rfl
        · exact ⟨_, h1, .inl rfl⟩
        · exact ⟨_, h1, .inr ⟨bT, rfl, HBT.out.below HB.out⟩⟩
      have HNM := Lib.hid hnm
      have HI := Lib.hid hin
      have i3 : IntKind.i64.wrap ((i : Int) + 1) = ((i + 1 : Nat) : Int) := by rw [IntWalk.i64_in _ (by omega)]; omega
      have HBW := Lib.hid (HBX.out.below (B1.out.trans (HB.out.mono B1.out.size)))
      clear hnm hin hi
      have x0 : wr.cell? ⟨w0.heap.size, 0, none⟩ = some (.int .i64 s.p.k.tail) := HBW.out.cell 0
      have x1 : wr.cell? ⟨w0.heap.size, 1, none⟩ = some (.int .i64 s.p.k.tun) := HBW.out.cell 1
      have x2 : wr.cell? ⟨w0.heap.size, 2, none⟩ = some (.int .i64 s.p.k.head) := HBW.out.cell 2
      have x3 : wr.cell? ⟨w0.heap.size, 3, none⟩ = some (.int .i64 s.p.k.lsp) := HBW.out.cell 3
      have HG := Lib.hid (get18_nm s.p.k HNM.out)
      go_wp2_with fail
      ((with_reducible refine (HG.out).mono ?_))
      rintro e v1 ⟨rfl, hb⟩
      replace HNM := Lib.hid (HNM.out.below hb)
      replace HBW := Lib.hid (HBW.out.below hb)
      replace HB := Lib.hid (HB.out.trans (hb.mono HB.out.size))
      clear hb
      clear HG x0 x1 x2 x3 hv
      have bz := bel_new (Below.refl v1.heap.size v1) (.cells #[.int .i64 0, .int .i64 0, .int .i64 0, .int .i64 0, .int .u64 0, .int .i64 0, .int .i64 0, .int .u32 0, .int .u32 0, .int .u32 0, .slice none 0 0, .int .i64 0, .int .i64 0, .int .i64 0, .int .i64 0, .int .i64 0, .int .i64 0] 40)
      have BZ := Lib.hid (show Blk (v1.alloc (.cells #[.int .i64 0, .int .i64 0, .int .i64 0, .int .i64 0, .int .u64 0, .int .i64 0, .int .i64 0, .int .u32 0, .int .u32 0, .int .u32 0, .slice none 0 0, .int .i64 0, .int .i64 0, .int .i64 0, .int .i64 0, .int .i64 0, .int .i64 0] 40)) v1.heap.size 40 (ssc z18) from Blk.new v1 40 (ssc z18))
      have HBZ := Lib.hid bz
      clear bz
      go_upto_region 7 with ((with_reducible refine step_store (o := ⟨none, _, _, _, _, _⟩) (vs := ssc z18) (ty := 40) (x := .tmp 7) (y := .tmp 29) ?_ ?_ ?_ ?_ BZ.out (HIN.out _) rfl (HON.out _) ?_); (rfl); (rfl); (rfl); (rfl); intro v2 hb5 hg5 hs5)
      have hb : Below v1.heap.size v1 v2 := bel_upd HBZ.out hg5 (Nat.le_refl _) (Nat.le_refl _)
      have HV := Lib.hid hb5
      clear hb5 hg5 hs5 BZ HBZ
      replace HNM := Lib.hid (HNM.out.below hb)
      replace HBW := Lib.hid (HBW.out.below hb)
      replace HB := Lib.hid (HB.out.trans (hb.mono HB.out.size))
      clear hb
      have HOU := Lib.hid (ours18_calls z18)
      go_wp2_with ((with_reducible refine step_load (o := ⟨some 31, _, _, _, _, _⟩) (x := .tmp 7) ?_ ?_ ?_ HV.out Try.underlying40 ?_ (HIN.out _) ?_); (rfl); (rfl); (rfl); (rfl))
      ((with_reducible refine (HOU.out _).mono ?_))
      rintro e v3 ⟨rfl, hb⟩
      clear HV HOU
      replace HNM := Lib.hid (HNM.out.below hb)
      replace HBW := Lib.hid (HBW.out.below hb)
      replace HB := Lib.hid (HB.out.trans (hb.mono HB.out.size))
      clear hb
      have hsm := rsame18_calls z18 z18 v3 rfl rfl Row.nil Row.nil (Nat.zero_le _)
      unfold Yes14 at hsm
      have HSM := Lib.hid (show Calls Try.prog 11 #[.agg (ssc z18).toArray, .agg #[.int .i64 0, .int .i64 0, .int .i64 0, .int .i64 0, .int .u64 0, .int .i64 0, .int .i64 0, .int .u32 0, .int .u32 0, .int .u32 0, .slice none 0 0, .int .i64 0, .int .i64 0, .int .i64 0, .int .i64 0, .int .i64 0, .int .i64 0]] v3 (fun e w' => e = .returned (.bool true) ∧ Below v3.heap.size v3 w') from hsm)
      clear hsm
      go_wp2_with fail
      ((with_reducible refine (HSM.out).mono ?_))
      rintro e v4 ⟨rfl, hb⟩
      replace HNM := Lib.hid (HNM.out.below hb)
      replace HBW := Lib.hid (HBW.out.below hb)
      replace HB := Lib.hid (HB.out.trans (hb.mono HB.out.size))
      clear hb
      clear HSM
      have HP := Lib.hid (show Calls Try.prog 19 #[v, .agg #[.int .i64 0, .int .i64 0, .int .i64 0, .int .i64 0, .int .u64 0, .int .i64 0, .int .i64 0, .int .u32 0, .int .u32 0, .int .u32 0, .slice none 0 0, .int .i64 0, .int .i64 0, .int .i64 0, .int .i64 0, .int .i64 0, .int .i64 0]] v4 (fun e w' => e = .returned (.int .i64 1) ∧ Below v4.heap.size v4 w') from put18_nm z18 HNM.out)
      go_wp2_with fail
      ((with_reducible refine (HP.out).mono ?_))
      rintro e v5 ⟨rfl, hb⟩
      replace HNM := Lib.hid (HNM.out.below hb)
      replace HBW := Lib.hid (HBW.out.below hb)
      replace HB := Lib.hid (HB.out.trans (hb.mono HB.out.size))
      clear hb
      have x0 : v5.cell? ⟨w0.heap.size, 0, none⟩ = some (.int .i64 s.p.k.tail) := HBW.out.cell 0
      have x1 : v5.cell? ⟨w0.heap.size, 1, none⟩ = some (.int .i64 s.p.k.tun) := HBW.out.cell 1
      have x2 : v5.cell? ⟨w0.heap.size, 2, none⟩ = some (.int .i64 s.p.k.head) := HBW.out.cell 2
      have x3 : v5.cell? ⟨w0.heap.size, 3, none⟩ = some (.int .i64 s.p.k.lsp) := HBW.out.cell 3
      clear HP
      have HD := Lib.hid (drop18_nm s.p.k HNM.out)
      go_wp2_with fail
      ((with_reducible refine (HD.out).mono ?_))
      rintro e v6 ⟨rfl, hb⟩
      replace HNM := Lib.hid (HNM.out.below hb)
      replace HBW := Lib.hid (HBW.out.below hb)
      replace HB := Lib.hid (HB.out.trans (hb.mono HB.out.size))
      clear hb
      clear HD x0 x1 x2 x3
      have HA := Lib.hid (all18_nm HNM.out)
      go_wp2_with fail
      ((with_reducible refine (HA.out).mono ?_))
      rintro e v7 ⟨rfl, rfl⟩
      clear HA
      have HLT := Lib.hid (late18_nm now HNM.out)
      go_wp2_with fail
      ((with_reducible refine (HLT.out).mono ?_))
      rintro e v8 ⟨rfl, hb⟩
      replace HNM := Lib.hid (HNM.out.below hb)
      replace HBW := Lib.hid (HBW.out.below hb)
      replace HB := Lib.hid (HB.out.trans (hb.mono HB.out.size))
      clear hb
      clear HLT
      have HLP := Lib.hid (laps18_nm now HNM.out)
      go_wp2_with fail
      ((with_reducible refine (HLP.out).mono ?_))
      rintro e v9 ⟨rfl, hb⟩
      replace HNM := Lib.hid (HNM.out.below hb)
      replace HBW := Lib.hid (HBW.out.below hb)
      replace HB := Lib.hid (HB.out.trans (hb.mono HB.out.size))
      clear hb
      clear HLP
      have HLN := Lib.hid (len18_nm HNM.out)
      go_wp2_with fail
      ((with_reducible refine (HLN.out).mono ?_))
      rintro e v10 ⟨rfl, rfl⟩
      clear HLN
      go_wp2_with fail
      go_roundw
      case rel => exact ⟨i + 1, HI.out, by first | rfl | (simp; omega), HB⟩
      case measure => have := HI.out; simp [intOf]; omega
    · have i1 : ¬ (i : Int) < 2 := by omega
      have HB1 := Lib.hid (B1.out.trans (HB.out.mono B1.out.size))
      clear hin hi HB B1 HBA HBT HBX
      generalize wr = w4 at *
      go_wp2_with fail
      ((with_reducible refine (new18_two _).mono ?_))
      intro e w5 hnew
      obtain ⟨q, S, rfl, st⟩ := St18.start HB1.out hnew
      have P5 := Lib.hid st
      clear st hnew HB1
      go_wp2_with fail
      ((with_reducible refine (one18_calls w5).mono ?_))
      rintro e w6 ⟨r, rfl, hrb, hrge, hb⟩
      have P6 := Lib.hid (P5.out.below hb)
      have R6 := Lib.hid (show BlkT w6 S r 3 [.int .i64 0, .int .i64 1, .int .i64 2] from ⟨hrb, fun hS => by have := P5.out.p.lt _ hS; omega⟩)
      have HRGE := Lib.hid (show w.heap.size ≤ r from Nat.le_trans P5.out.bel.size hrge)
      clear hb hrb hrge P5
      obtain ⟨sv, hsv⟩ : ∃ sv : Ss, (⟨one18, some ⟨r, 0, none⟩, 3, 3⟩ : Ss) = sv := ⟨_, rfl⟩
      have HSV := Lib.hid hsv
      rw [hsv]
      clear hsv
      have bz := bel_new (Below.refl w6.heap.size w6) (.cells #[.int .i64 0, .int .i64 0, .int .i64 0, .int .i64 0, .int .u64 0, .int .i64 0, .int .i64 0, .int .u32 0, .int .u32 0, .int .u32 0, .slice none 0 0, .int .i64 0, .int .i64 0, .int .i64 0, .int .i64 0, .int .i64 0, .int .i64 0] 40)
      have BZ := Lib.hid (show BlkT (w6.alloc (.cells #[.int .i64 0, .int .i64 0, .int .i64 0, .int .i64 0, .int .u64 0, .int .i64 0, .int .i64 0, .int .u32 0, .int .u32 0, .int .u32 0, .slice none 0 0, .int .i64 0, .int .i64 0, .int .i64 0, .int .i64 0, .int .i64 0, .int .i64 0] 40)) S w6.heap.size 40 (ssc z18) from P6.out.newb 40 (ssc z18))
      have HBZ := Lib.hid bz
      have HRV := Lib.hid (show r < w6.heap.size from R6.out.blk.lt)
      clear bz
      go_upto_region 12 with ((with_reducible refine step_store (o := ⟨none, _, _, _, _, _⟩) (vs := ssc sv) (ty := 40) (x := .tmp 10) (y := .tmp 80) ?_ ?_ ?_ ?_ BZ.out.blk (HIN.out _) rfl (HON.out _) ?_); (rfl); (rfl); (rfl); (rfl); intro w7 hb5 hg5 hs5)
      have hb : Below w6.heap.size w6 w7 := bel_upd HBZ.out hg5 (Nat.le_refl _) (Nat.le_refl _)
      have P7 := Lib.hid (P6.out.below hb)
      have R7 := Lib.hid (R6.out.below hb)
      have V7 := Lib.hid (BlkT.mk hb5 BZ.out.off)
      clear hb hb5 hg5 hs5 BZ HBZ P6 R6
      generalize w6.heap.size = qV at *
      have hpt := put18c_calls q 2 [] S sv w7 P7.out.p (by rw [← HSV.out]; exact one_row18 R7.out.blk) (by rw [← HSV.out]; simp)
      rw [show sv.p = one18 by rw [← HSV.out], one_put18] at hpt
      unfold Prt18 at hpt
      have HP := Lib.hid hpt
      clear hpt
      go_wp2_with ((with_reducible refine step_load_want (o := ⟨some 85, _, _, _, _, _⟩) (x := .tmp 10) ?_ ?_ ?_ V7.out.blk Try.underlying40 ?_ (HIN.out _) ?_); (rfl); (rfl); (rfl); (rfl))
      ((with_reducible refine HP.out.mono ?_))
      rintro e w8 ⟨S2, rfl, hp, hm⟩
      have P8 := Lib.hid (P7.out.mv hp hm)
      have R8 := Lib.hid (R7.out.mv hm)
      have V8 := Lib.hid (V7.out.mv hm)
      clear hp hm P7 R7 V7 HP
      have x10 : w8.cell? ⟨qV, 10, none⟩ = some (.slice (some ⟨r, 0, none⟩) 3 3) := by have h0 := V8.out.blk.cell 10; rw [← HSV.out] at h0; exact h0
      have r1 : w8.cell? ⟨r, 1, none⟩ = some (.int .i64 1) := R8.out.blk.cell 1
      have f1 : w8.frozen? ⟨r, 1, none⟩ = false := R8.out.blk.free 1
      have HGS := Lib.hid (upd_set_p w8 r 1 (.int .i64 9))
      go_upto_region 15 with fail
      generalize (w8.setCell ⟨r, 1, none⟩ (.int .i64 9)) = w9 at *
      have P9 := Lib.hid (P8.out.stored HGS.out R8.out.off HRGE.out)
      have V9 := Lib.hid (V8.out.stored HGS.out (Nat.ne_of_gt HRV.out))
      clear x10 r1 f1 HGS P8 R8 V8 HRGE HRV
      have x0 : w9.cell? ⟨qV, 0, none⟩ = some (.int .i64 2) := by have h0 := V9.out.blk.cell 0; rw [← HSV.out] at h0; exact h0
      have x1 : w9.cell? ⟨qV, 1, none⟩ = some (.int .i64 1) := by have h0 := V9.out.blk.cell 1; rw [← HSV.out] at h0; exact h0
      have x2 : w9.cell? ⟨qV, 2, none⟩ = some (.int .i64 0) := by have h0 := V9.out.blk.cell 2; rw [← HSV.out] at h0; exact h0
      have x3 : w9.cell? ⟨qV, 3, none⟩ = some (.int .i64 1) := by have h0 := V9.out.blk.cell 3; rw [← HSV.out] at h0; exact h0
      have hgt := get18_calls q 2 [one18] S2 ⟨2, 1, 0, 1⟩ w9 P9.out.p
      rw [one_get18] at hgt
      unfold Got18 at hgt
      have HG := Lib.hid (show Calls Try.prog 9 #[.pointer (some ⟨q, 0, none⟩), .agg #[.int .i64 2, .int .i64 1, .int .i64 0, .int .i64 1]] w9 _ from hgt)
      clear hgt
      go_wp2_with fail
      ((with_reducible refine HG.out.mono ?_))
      rintro e v1 ⟨sg, rfl, hgp, hgn, hga, hb⟩
      have hge : gerr18 (some one18) = 0 := rfl
      rw [hge]
      rw [show sg.p.rt = [0, 1, 2] by rw [hgp]; rfl] at hga hgn
      have P10 := Lib.hid (P9.out.below hb)
      have V10 := Lib.hid (V9.out.below hb)

      have HGN := Lib.hid (show sg.n = 3 from hgn)
      have HLV := Lib.hid (show qV < w9.heap.size from V9.out.blk.lt)
      have HGA := Lib.hid hga
      have HLT := Lib.hid (fun b hS => P9.out.p.lt b hS)
      have HSZ := Lib.hid P9.out.bel.size
      clear hge hgp hgn hga hb HG x0 x1 x2 x3 P9 V9
      have bz := bel_new (Below.refl v1.heap.size v1) (.cells #[.int .i64 0, .int .i64 0, .int .i64 0, .int .i64 0, .int .u64 0, .int .i64 0, .int .i64 0, .int .u32 0, .int .u32 0, .int .u32 0, .slice none 0 0, .int .i64 0, .int .i64 0, .int .i64 0, .int .i64 0, .int .i64 0, .int .i64 0] 40)
      have BZ := Lib.hid (show BlkT (v1.alloc (.cells #[.int .i64 0, .int .i64 0, .int .i64 0, .int .i64 0, .int .u64 0, .int .i64 0, .int .i64 0, .int .u32 0, .int .u32 0, .int .u32 0, .slice none 0 0, .int .i64 0, .int .i64 0, .int .i64 0, .int .i64 0, .int .i64 0, .int .i64 0] 40)) S2 v1.heap.size 40 (ssc z18) from P10.out.newb 40 (ssc z18))
      have HBZ := Lib.hid bz
      clear bz
      go_upto_region 16 with ((with_reducible refine step_store (o := ⟨none, _, _, _, _, _⟩) (vs := ssc sg) (ty := 40) (x := .tmp 11) (y := .tmp 97) ?_ ?_ ?_ ?_ BZ.out.blk (HIN.out _) rfl (HON.out _) ?_); (rfl); (rfl); (rfl); (rfl); intro v2 hb5 hg5 hs5)
      have hb : Below v1.heap.size v1 v2 := bel_upd HBZ.out hg5 (Nat.le_refl _) (Nat.le_refl _)
      have P11 := Lib.hid (P10.out.below hb)
      have V11 := Lib.hid (V10.out.below hb)
      have G11 := Lib.hid (BlkT.mk hb5 BZ.out.off)
      have ha := HGA.out.bel hb
      obtain ⟨g, hg1, hg2, hg3, hg4, hg6⟩ := acc_cell18 HGA.out
      obtain ⟨g', hg1', hg2', hg3', c1, f1⟩ := acc_cell18 ha
      obtain rfl : g' = g := by rw [hg1] at hg1'; injection hg1' with h0; injection h0 with h0 _ _; exact h0.symm
      have HGO := Lib.hid (show g' ∉ S2 from fun hS => by have := HLT.out _ hS; omega)
      have HGB := Lib.hid (show w.heap.size ≤ g' from Nat.le_trans HSZ.out hg2)
      have HGX := Lib.hid (show v1.heap.size ≠ g' from Nat.ne_of_gt hg3)
      have HQG := Lib.hid (show w.heap.size ≤ v1.heap.size from P10.out.bel.size)
      have HVX := Lib.hid (show qV ≠ g' from fun e => by have := V10.out.blk.lt; have := HLV.out; omega)
      have y10 : v2.cell? ⟨v1.heap.size, 10, none⟩ = some (.slice (some ⟨g', 0, none⟩) 3 sg.c) := by have h0 := G11.out.blk.cell 10; rw [← HGN.out, ← hg1]; exact h0
      clear hb hb5 hg5 hs5 BZ HBZ P10 V10 ha hg1 hg2 hg3 hg4 hg6 hg1' hg2' hg3' HGA HLT HSZ HLV
      generalize v1.heap.size = qG at *
      have HGS := Lib.hid (upd_set_p v2 g' 1 (.int .i64 8))
      go_upto_region 19 with fail
      generalize (v2.setCell ⟨g', 1, none⟩ (.int .i64 8)) = v3 at *
      have P12 := Lib.hid (P11.out.stored HGS.out HGO.out HGB.out)
      have V12 := Lib.hid (V11.out.stored HGS.out HVX.out)
      have G12 := Lib.hid (G11.out.stored HGS.out HGX.out)
      clear y10 c1 f1 HGS HGO HGB HGX HVX P11 V11 G11 HGN
      have hall := all18_calls q 2 [one18] S2 v3 P12.out.p
      unfold All18 at hall
      have HA := Lib.hid hall
      have HSZ := Lib.hid P12.out.bel.size
      have HLT := Lib.hid (fun b hS => P12.out.p.lt b hS)
      have HLV := Lib.hid (And.intro V12.out.blk.lt G12.out.blk.lt)
      clear hall
      go_wp2_with fail
      ((with_reducible refine HA.out.mono ?_))
      rintro e v4 ⟨la, A, c, rfl, hmap, hacc, hsts, hb⟩
      obtain ⟨z, rfl⟩ : ∃ z, la = [z] := by
        cases la with
        | nil => simp at hmap
        | cons z t => cases t with
          | nil => exact ⟨z, rfl⟩
          | cons _ _ => simp at hmap
      have hzp : z.p = one18 := by simpa using hmap
      have hz := hsts z (List.mem_singleton.2 rfl)
      rw [hzp] at hz
      obtain ⟨gz, rfl, hz1, hz2, hz3⟩ := acc_one18 hacc
      obtain ⟨g, hg1, hg2, hg3, c1, f1⟩ := acc_cell18 hz.1
      have z10 : v4.cell? ⟨gz, 10, none⟩ = some (.slice (some ⟨g, 0, none⟩) 3 z.c) := by rw [hz3, hg1, hz.2]; rfl
      have P13 := Lib.hid (P12.out.below hb)
      have V13 := Lib.hid (V12.out.below hb)
      have G13 := Lib.hid (G12.out.below hb)
      have HGO := Lib.hid (show g ∉ S2 from fun hS => by have := HLT.out _ hS; omega)
      have HGB := Lib.hid (show w.heap.size ≤ g from Nat.le_trans HSZ.out hg2)
      have HGX := Lib.hid (show qG ≠ g from fun e => by have := HLV.out; omega)
      have HVX := Lib.hid (show qV ≠ g from fun e => by have := HLV.out; omega)
      rw [show [z].length = 1 from rfl]
      clear hb hmap hacc hsts hzp hz hz1 hz2 hz3 hg1 hg2 hg3 P12 V12 G12 HLT HSZ HLV HA
      have HGS := Lib.hid (upd_set_p v4 g 1 (.int .i64 7))
      go_upto_region 23 with fail
      generalize (v4.setCell ⟨g, 1, none⟩ (.int .i64 7)) = v5 at *
      have P14 := Lib.hid (P13.out.stored HGS.out HGO.out HGB.out)
      have V14 := Lib.hid (V13.out.stored HGS.out HVX.out)
      have G14 := Lib.hid (G13.out.stored HGS.out HGX.out)
      clear z10 c1 f1 HGS HGO HGB HGX HVX P13 V13 G13
      have x0 : v5.cell? ⟨qV, 0, none⟩ = some (.int .i64 2) := by have h0 := V14.out.blk.cell 0; rw [← HSV.out] at h0; exact h0
      have x1 : v5.cell? ⟨qV, 1, none⟩ = some (.int .i64 1) := by have h0 := V14.out.blk.cell 1; rw [← HSV.out] at h0; exact h0
      have x2 : v5.cell? ⟨qV, 2, none⟩ = some (.int .i64 0) := by have h0 := V14.out.blk.cell 2; rw [← HSV.out] at h0; exact h0
      have x3 : v5.cell? ⟨qV, 3, none⟩ = some (.int .i64 1) := by have h0 := V14.out.blk.cell 3; rw [← HSV.out] at h0; exact h0
      have hgt := get18_calls q 2 [one18] S2 ⟨2, 1, 0, 1⟩ v5 P14.out.p
      rw [one_get18] at hgt
      unfold Got18 at hgt
      have HG := Lib.hid (show Calls Try.prog 9 #[.pointer (some ⟨q, 0, none⟩), .agg #[.int .i64 2, .int .i64 1, .int .i64 0, .int .i64 1]] v5 _ from hgt)
      clear hgt
      go_wp2_with fail
      ((with_reducible refine HG.out.mono ?_))
      rintro e v6 ⟨sh, rfl, hgp, hgn, hga, hb⟩
      have hge : gerr18 (some one18) = 0 := rfl
      rw [hge]
      rw [show sh.p.rt = [0, 1, 2] by rw [hgp]; rfl] at hga hgn
      have P15 := Lib.hid (P14.out.below hb)
      have V15 := Lib.hid (V14.out.below hb)
      have G15 := Lib.hid (G14.out.below hb)
      have HLG := Lib.hid (show qG < v5.heap.size from G14.out.blk.lt)
      have HGN := Lib.hid (show sh.n = 3 from hgn)
      have HGA := Lib.hid hga
      have HLT := Lib.hid (fun b hS => P14.out.p.lt b hS)
      have HSZ := Lib.hid P14.out.bel.size
      clear hge hgp hgn hga hb HG x0 x1 x2 x3 P14 V14
      go_upto_region 24 with ((with_reducible refine step_store (o := ⟨none, _, _, _, _, _⟩) (vs := ssc sh) (ty := 40) (x := .tmp 11) (y := .tmp 149) ?_ ?_ ?_ ?_ G15.out.blk (HIN.out _) rfl (HON.out _) ?_); (rfl); (rfl); (rfl); (rfl); intro v7 hb5 hg5 hs5)
      have P16 := Lib.hid (P15.out.stored hg5 G15.out.off (show w.heap.size ≤ qG from HQG.out))
      have ha := hacc18 HGA.out G15.out.blk hg5
      obtain ⟨g, hg1, hg2, hg3, c1, f1⟩ := acc_cell18 ha
      have y10 : v7.cell? ⟨qG, 10, none⟩ = some (.slice (some ⟨g, 0, none⟩) 3 sh.c) := by have h0 := hb5.cell 10; rw [← HGN.out, ← hg1]; exact h0
      clear hb5 hg5 hs5 P15 V15 G15 ha hg1 hg2 hg3 f1
      go_wp2_with fail
      go_ret
      exact ⟨rfl, HL0.out.trans (P16.out.bel.mono HL0.out.size)⟩
end Go.Proofs.Ytogijfebfffobaa
