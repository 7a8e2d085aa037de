/-
  The statement MessageHeads, walked. Condition: the message's lists read as numbers.
-/
import Derived.Test.YthmgpffpiggomaaMsgU
namespace Go.Proofs.Ythmgpffpiggomaa
open Go.RowKit

set_option maxRecDepth 100000 in
set_option maxHeartbeats 6400000 in
theorem heads8_walk (M : Ms) (w : World) (hm : FineM w w.heap.size M) : Calls Try.prog 6 #[.agg M.cells.toArray] w (SamePost w true) := by
  have HB0 := Lib.hid (Blk.new w 30 M.cells)
  have HL0 := Lib.hid (bel_new (Below.refl _ w) (.cells M.cells.toArray 30))
  have HM := Lib.hid hm
  clear hm
  go_enter Try.func6, Try.ntmps6
  go_upto_region 1 with fail
  revert HB0 HL0
  generalize World.alloc w _ = w1
  intro HB0 HL0
  go_wp2_with fail
  ((with_reducible refine (alive8_calls w1).mono ?_))
  rintro e w2 ⟨rfl, hb⟩
  have HB2 := Lib.hid (HB0.out.below hb)
  have HL2 := Lib.hid (bel_more HL0.out (Nat.le_refl _) hb)
  clear hb HB0 HL0
  have HFT := Lib.hid (fits8_calls M w2 HM.out.len HM.out.len2)
  go_wp2_with (refine step_load (o := ⟨some 7, _, _, _, _, _⟩) rfl rfl rfl HB2.out Try.underlying30 rfl rfl ?_)
  ((with_reducible refine HFT.out.mono ?_))
  rintro e w3 ⟨rfl, hb⟩
  have HB3 := Lib.hid (HB2.out.below hb)
  have HL3 := Lib.hid (bel_more HL2.out (Nat.le_refl _) hb)
  clear hb HB2 HL2 HFT
  cases hd : decide (M.rn ≤ 6000 ∧ M.on ≤ 6000) with
  | false =>
    clear hd
    go_wp2
    go_ret
    exact ⟨rfl, HL3.out⟩
  | true =>
    clear hd
    go_wp2_with (refine step_load (o := ⟨some 11, _, _, _, _, _⟩) rfl rfl rfl HB3.out Try.underlying30 rfl rfl ?_)
    ((with_reducible refine (theirs8_calls M w3).mono ?_))
    rintro e w4 ⟨rfl, hb⟩
    have HB4 := Lib.hid (HB3.out.below hb)
    have HL4 := Lib.hid (bel_more HL3.out (Nat.le_refl _) hb)
    clear hb HB3 HL3
    have HEN := Lib.hid (encode8_calls M w4 ((HM.out.below HL4.out).more HL4.out.size))
    go_wp2_with fail
    ((with_reducible refine HEN.out.mono ?_))
    intro e w5 hp
    obtain ⟨b, A, c, er, rfl, ha, hb, hcase⟩ := hp.told
    have HB5 := Lib.hid (HB4.out.below hb)
    have HL5 := Lib.hid (bel_more HL4.out (Nat.le_refl _) hb)
    have HA5 := Lib.hid ha
    clear hp ha hb HB4 HL4 HEN
    rcases hcase with ⟨rfl, hen⟩ | ⟨rfl, rfl, hen⟩
    · obtain ⟨os, v, _, hbs, hbl, hle, h4, _, ty1, ty2, tl1, tl2, _⟩ := mEnc_says hen
      have HBT := Lib.hid HA5.out.bts
      obtain ⟨g, rfl, _⟩ := HA5.out.some (by omega)
      obtain ⟨N, hN⟩ : ∃ N, N = b.length := ⟨_, rfl⟩
      have e1 : (b.drop 1).take 1 = [UInt8.ofNat M.ty.toNat] := by rw [hbs]; simp [dig_two]; rfl
      have e4 : (b.drop 4).take 1 = [UInt8.ofNat M.tl.toNat] := by rw [hbs]; simp [dig_two]; rfl
      have e6 : (b.drop 6).take 1 = [UInt8.ofNat (N / 256)] := by rw [hN, hbl, hbs]; simp [dig_two]
      have e7 : (b.drop 7).take 1 = [UInt8.ofNat N] := by rw [hN, hbl, hbs]; simp [dig_two]
      have e0 : (b.drop 0).take 1 = [16] := by rw [hbs]; rfl
      have e5 : (b.drop 5).take 1 = [0] := by rw [hbs]; simp [dig_two]
      have hty : 1 ≤ M.ty ∧ M.ty ≤ 7 := ⟨ty1, ty2⟩
      have htl : 0 ≤ M.tl ∧ M.tl ≤ 255 := ⟨tl1, tl2⟩
      have hN8 : 8 ≤ N ∧ N ≤ 1196 ∧ N % 4 = 0 := by omega
      clear hbs hle h4 ty1 ty2 tl1 tl2 hen
      obtain ⟨P, hP⟩ : ∃ P, P = N / 256 := ⟨_, rfl⟩
      obtain ⟨R, hR⟩ : ∃ R, R = N % 256 := ⟨_, rfl⟩
      have c0 : w5.cell? ⟨g, 0, none⟩ = some (.int .u8 16) := by
        have h := HBT.out.byte8 0 (by omega)
        rw [e0] at h
        exact h
      have c5 : w5.cell? ⟨g, 5, none⟩ = some (.int .u8 0) := by
        have h := HBT.out.byte8 5 (by omega)
        rw [e5, Nat.zero_add] at h
        exact h
      have c1 : w5.cell? ⟨g, 1, none⟩ = some (.int .u8 M.ty) := by
        have h := HBT.out.byte8 1 (by omega)
        have q : ((M.ty.toNat % 2 ^ 8 : Nat) : Int) = M.ty := by omega
        rw [e1, num_one, UInt8.toNat_ofNat', q, Nat.zero_add] at h
        exact h
      have c4 : w5.cell? ⟨g, 4, none⟩ = some (.int .u8 M.tl) := by
        have h := HBT.out.byte8 4 (by omega)
        have q : ((M.tl.toNat % 2 ^ 8 : Nat) : Int) = M.tl := by omega
        rw [e4, num_one, UInt8.toNat_ofNat', q, Nat.zero_add] at h
        exact h
      have c6 : w5.cell? ⟨g, 6, none⟩ = some (.int .u8 (P : Int)) := by
        have h := HBT.out.byte8 6 (by omega)
        have q : N / 256 % 2 ^ 8 = P := by omega
        rw [e6, num_one, UInt8.toNat_ofNat', q, Nat.zero_add] at h
        exact h
      have c7 : w5.cell? ⟨g, 7, none⟩ = some (.int .u8 (R : Int)) := by
        have h := HBT.out.byte8 7 (by omega)
        have q : N % 2 ^ 8 = R := by omega
        rw [e7, num_one, UInt8.toNat_ofNat', q, Nat.zero_add] at h
        exact h
      have x0 : w5.cell? ⟨w.heap.size, 0, none⟩ = some (.int .i64 M.ty) := HB5.out.cell 0
      have x1 : w5.cell? ⟨w.heap.size, 1, none⟩ = some (.int .i64 M.tl) := HB5.out.cell 1
      have HC := Lib.hid (show (w5.cell? ⟨g, 0, none⟩ = some (.int .u8 16) ∧ w5.cell? ⟨g, 1, none⟩ = some (.int .u8 M.ty) ∧ w5.cell? ⟨g, 4, none⟩ = some (.int .u8 M.tl) ∧ w5.cell? ⟨g, 5, none⟩ = some (.int .u8 0) ∧ w5.cell? ⟨g, 6, none⟩ = some (.int .u8 (P : Int)) ∧ w5.cell? ⟨g, 7, none⟩ = some (.int .u8 (R : Int))) ∧ w5.cell? ⟨w.heap.size, 0, none⟩ = some (.int .i64 M.ty) ∧ w5.cell? ⟨w.heap.size, 1, none⟩ = some (.int .i64 M.tl) from ⟨⟨c0, c1, c4, c5, c6, c7⟩, x0, x1⟩)
      have k1 : IntKind.i64.wrap M.ty = M.ty := by rw [IntKind.wrap_i64]; omega
      have k2 : IntKind.i64.wrap M.tl = M.tl := by rw [IntKind.wrap_i64]; omega
      have k3 : IntKind.i64.wrap (P : Int) = (P : Int) := by rw [IntKind.wrap_i64]; omega
      have k4 : IntKind.i64.wrap (R : Int) = (R : Int) := by rw [IntKind.wrap_i64]; omega
      have k5 : IntKind.i64.wrap ((P : Int) * 256) = (P : Int) * 256 := by rw [IntKind.wrap_i64]; omega
      have k6 : IntKind.i64.wrap ((P : Int) * 256 + (R : Int)) = (N : Int) := by rw [IntKind.wrap_i64]; omega
      have k7 : (N : Int).tmod 4 = 0 := by rw [Int.tmod_eq_emod_of_nonneg (by omega)]; omega
      have k8 : decide ((8 : Int) ≤ (N : Int)) = true := decide_eq_true (by omega)
      have k9 : (8 : Int) ≤ (N : Int) := by omega
      have m0 : 0 < N := by omega
      have m1 : 1 < N := by omega
      have m4 : 4 < N := by omega
      have m5 : 5 < N := by omega
      have m6 : 6 < N := by omega
      have m7 : 7 < N := by omega
      have j0 : (0 : Int) < (N : Int) := by omega
      have j1 : (1 : Int) < (N : Int) := by omega
      have j4 : (4 : Int) < (N : Int) := by omega
      have j5 : (5 : Int) < (N : Int) := by omega
      have j6 : (6 : Int) < (N : Int) := by omega
      have j7 : (7 : Int) < (N : Int) := by omega
      rw [← hN]
      clear hN hbl hP hR e0 e1 e4 e5 e6 e7 c0 c1 c4 c5 c6 c7 x0 x1 hty htl hN8 HBT HA5 HB5
      go_wp2_with fail
      refine region_seq (fun W => (W.cell? ⟨g, 0, none⟩ = some (.int .u8 16) ∧ W.cell? ⟨g, 1, none⟩ = some (.int .u8 M.ty) ∧ W.cell? ⟨g, 4, none⟩ = some (.int .u8 M.tl) ∧ W.cell? ⟨g, 5, none⟩ = some (.int .u8 0) ∧ W.cell? ⟨g, 6, none⟩ = some (.int .u8 (P : Int)) ∧ W.cell? ⟨g, 7, none⟩ = some (.int .u8 (R : Int))) ∧ W.cell? ⟨w.heap.size, 0, none⟩ = some (.int .i64 M.ty) ∧ W.cell? ⟨w.heap.size, 1, none⟩ = some (.int .i64 M.tl))
        [(0, true), (1, true), (2, true), (3, true), (4, true), (5, true), (6, true), (7, true), (8, true), (9, true), (10, true), (11, true), (12, true), (13, true), (14, true), (15, true), (16, true), (17, true), (18, true), (19, true), (20, true), (21, true), (22, true), (23, true), (24, true), (25, true), (26, true), (27, true), (28, true), (29, true), (30, true), (31, true), (32, true), (33, true), (34, true), (35, true), (36, true), (37, true), (38, true), (39, true), (40, true), (41, true), (42, true), (43, true), (44, true), (45, true), (46, true), (47, true), (48, true), (49, true), (50, true), (51, true), (52, true), (53, true), (54, true)]
        (by kernel_rfl) (by kernel_rfl) (by kernel_rfl) (by kernel_rfl) (fun _ _ _ _ _ h => h) HC.out ?_
      repeat
        first
        | (refine seq_pure (v := ?_) rfl (by rfl) (fun W hW => ?_) ?_
           rotate_left
           · obtain ⟨⟨c0, c1, c4, c5, c6, c7⟩, x0, x1⟩ := hW
             go_simp
             try with_reducible rfl
           simp only [Act.put, List.setIfInBounds_toArray, List.set_cons_zero, List.set_cons_succ])
        | (refine seq_skip rfl (by rfl) ?_
           simp only [Act.put, List.setIfInBounds_toArray, List.set_cons_zero, List.set_cons_succ])
      refine seq_done ?_
      go_wp2
      go_ret
      exact ⟨rfl, bel_drewN HL5.out 1⟩
    · have HNO := Lib.hid (mObjs_of_enc hen)
      clear hen
      go_wp2_with (refine step_load_want (o := ⟨some 22, _, _, _, _, _⟩) rfl rfl rfl HB5.out Try.underlying30 rfl rfl ?_)
      ((with_reducible refine (theirs8_calls M w5).mono ?_))
      rintro e w6 ⟨rfl, hb⟩
      have HL6 := Lib.hid (bel_more HL5.out (Nat.le_refl _) hb)
      clear hb HB5 HL5
      have HMY := Lib.hid (may8_calls M w6 ((HM.out.below HL6.out).more HL6.out.size))
      go_wp2_with fail
      ((with_reducible refine HMY.out.mono ?_))
      rintro e w7 ⟨rfl, hb⟩
      rw [HNO.out]
      have HL7 := Lib.hid (bel_more HL6.out (Nat.le_refl _) hb)
      clear hb HMY
      go_wp2
      go_ret
      exact ⟨rfl, HL7.out⟩
end Go.Proofs.Ythmgpffpiggomaa
