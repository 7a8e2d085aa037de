/-
  The law PruneMore, walked: for any adverts and any two questions the answer is true, and nothing that was there has turned. Condition: the arguments' numbers are as large as their types allow.
-/
import Derived.Test.YtmffmoflelnmoaaPruV
namespace Go.Proofs.Ytmffmoflelnmoaa
set_option maxRecDepth 100000
set_option linter.unusedVariables false
open Go.RowKit

def zak16 : List Value := #[.int .u64 0, .int .i64 0, .int .i64 0, .int .u32 0, .int .u32 0, .int .u32 0, .slice none 0 0, .slice none 0 0, .slice none 0 0, .int .i64 0].toList
set_option maxHeartbeats 12800000 in
theorem pmore16_walk (b : Option Addr) (n c : Nat) (a : Ak) (p : Pl) (a2 : Ak) (p2 : Pl) (w : World) (hn : n ≤ maxLen) (ho : ∃ l, Row adc w w.heap.size b n l ∧ ∀ x ∈ l, AdOk x ∧ I15 x.q) (hk : AkOk a ∧ AkRow w a p ∧ p.n1 ≤ maxLen ∧ p.n2 ≤ maxLen ∧ p.n3 ≤ maxLen) (hk2 : AkOk a2 ∧ AkRow w a2 p2 ∧ p2.n1 ≤ maxLen ∧ p2.n2 ≤ maxLen ∧ p2.n3 ≤ maxLen) :
    Calls Try.prog 4 #[.slice b n c, .agg (akc a.w p).toArray, .agg (akc a2.w p2).toArray] w fun e w' => e = .returned (.bool true) ∧ Below w.heap.size w w' := by
  obtain ⟨l, hr, hx⟩ := ho
  have HX := Lib.hid (fun x h => (hx x h).1)
  have HAK := Lib.hid hk.1
  have HAK2 := Lib.hid hk2.1
  obtain ⟨b0, b1, hl⟩ := alloc2 w (akc a.w p) (akc a2.w p2) 31 31
  have HQ := Lib.hid b0
  have HP := Lib.hid b1
  have HL := Lib.hid hl
  have HR := Lib.hid ((hr.below hl).more hl.size)
  have HAR := Lib.hid (hk.2.1.below hl)
  have HAR2 := Lib.hid (hk2.2.1.below hl)
  have HR0 := Lib.hid hr
  have HAR0 := Lib.hid hk.2.1
  have HAR20 := Lib.hid hk2.2.1
  have HIA := Lib.hid (show (Try.prog.info? 31).map (·.size) = some (akc a.w p).length from infoAkR)
  have HIB := Lib.hid (fun q => (show (Try.prog.info? 31).map (·.size) = some (akc a2.w q).length from infoAkR))
  have HIN := Lib.hid (fun x => (show (Try.prog.info? 38).map (·.size) = some (adc x).length from infoAdR16))
  have HWA := Lib.hid (show (Try.prog.info? 26).map (·.size) = some (wnc a.w).length from infoWn16)
  have HWB := Lib.hid (show (Try.prog.info? 26).map (·.size) = some (wnc a2.w).length from infoWn16)
  unfold maxLen at hn
  clear hx hl hr hk hk2 b0 b1
  go_enter Try.func4, Try.ntmps4
  go_upto_region 1 with fail
  generalize ((w.alloc (.cells (akc a.w p).toArray 31)).alloc _) = w1 at *
  go_wp2_with fail
  ((with_reducible refine (alive16_calls w1).mono ?_))
  rintro e w2 ⟨rfl, hb⟩
  have L2 := Lib.hid (HL.out.trans (hb.mono HL.out.size))
  have Q2 := Lib.hid (HQ.out.below hb)
  have P2 := Lib.hid (HP.out.below hb)
  have R2 := Lib.hid ((HR.out.below hb).more hb.size)
  have K2 := Lib.hid (HAR.out.below hb)
  have M2 := Lib.hid (HAR2.out.below hb)
  clear hb HL HQ HR HAR HP HAR2
  have hsm := small16_calls b n c a.w p w2
  unfold Yes15 at hsm
  obtain ⟨sm, hs⟩ : ∃ sm, sml16 n p = sm := ⟨_, rfl⟩
  rw [hs] at hsm
  have HS := Lib.hid hs
  have HSM := Lib.hid hsm
  clear hs hsm
  go_wp2_with (refine step_load (o := ⟨some 13, _, _, _, _, _⟩) rfl rfl rfl Q2.out Try.underlying31 rfl HIA.out ?_)
  ((with_reducible refine HSM.out.mono ?_))
  rintro e w3 ⟨rfl, hb⟩
  have L3 := Lib.hid (L2.out.trans (hb.mono L2.out.size))
  have Q3 := Lib.hid (Q2.out.below hb)
  have P3 := Lib.hid (P2.out.below hb)
  have R3 := Lib.hid ((R2.out.below hb).more hb.size)
  have K3 := Lib.hid (K2.out.below hb)
  have M3 := Lib.hid (M2.out.below hb)
  clear hb L2 Q2 P2 R2 K2 M2 HSM
  cases sm with
  | false =>
    go_wp2_with fail
    go_ret
    exact ⟨rfl, L3.out⟩
  | true =>
  have I3 := Lib.hid (K3.out.akin HS.out)
  have hn1 : n ≤ 100 := by have := HS.out; unfold sml16 at this; simp only [Bool.and_eq_true, decide_eq_true_eq] at this; exact this.1
  have HPN := Lib.hid (show p.n1 ≤ 100 ∧ p.n2 ≤ 100 by have := HS.out; unfold sml16 at this; simp only [Bool.and_eq_true, decide_eq_true_eq] at this; exact ⟨this.2.1, this.2.2.1⟩)
  have HSA := HS
  clear hn K3 HS
  have hsm := small16_calls b n c a2.w p2 w3
  unfold Yes15 at hsm
  obtain ⟨sm, hs⟩ : ∃ sm, sml16 n p2 = sm := ⟨_, rfl⟩
  rw [hs] at hsm
  have HS := Lib.hid hs
  have HSM := Lib.hid hsm
  have HIB2 := Lib.hid (HIB.out p2)
  clear hs hsm
  go_wp2_with (refine step_load_want (o := ⟨some 18, _, _, _, _, _⟩) (by rfl) rfl rfl P3.out Try.underlying31 rfl HIB2.out ?_)
  ((with_reducible refine HSM.out.mono ?_))
  rintro e w4 ⟨rfl, hb⟩
  have L4 := Lib.hid (L3.out.trans (hb.mono L3.out.size))
  have Q4 := Lib.hid (Q3.out.below hb)
  have P4 := Lib.hid (P3.out.below hb)
  have R4 := Lib.hid ((R3.out.below hb).more hb.size)
  have I4 := Lib.hid (I3.out.below hb)
  have M4 := Lib.hid (M3.out.below hb)
  clear hb L3 Q3 P3 R3 I3 M3 HSM
  cases sm with
  | false =>
    go_wp2_with fail
    go_ret
    exact ⟨rfl, L4.out⟩
  | true =>
  have J4 := Lib.hid (M4.out.akin HS.out)
  have HPM := Lib.hid (show p2.n1 ≤ 100 ∧ p2.n2 ≤ 100 by have := HS.out; unfold sml16 at this; simp only [Bool.and_eq_true, decide_eq_true_eq] at this; exact ⟨this.2.1, this.2.2.1⟩)
  have HSB := HS
  clear M4 HS
  have x1 : w4.cell? ⟨w.heap.size, 1, none⟩ = some (.int .i64 a.w.su) := Q4.out.cell 1
  have x2 : w4.cell? ⟨w.heap.size + 1, 1, none⟩ = some (.int .i64 a2.w.su) := P4.out.cell 1
  by_cases hsu : a.w.su = a2.w.su
  case neg =>
    have q1 : (a.w.su != a2.w.su) = true := by simpa using hsu
    clear hsu
    go_wp2_with fail
    go_ret
    exact ⟨rfl, L4.out⟩
  have q1 : (a.w.su != a2.w.su) = false := by simpa using hsu
  have HSU := Lib.hid hsu
  clear hsu
  have hcv : Calls Try.prog 18 #[.agg (wnc a.w).toArray, .agg (wnc a2.w).toArray] w4 (Yes12 (wCovers a.w a2.w) w4) := rcovers12_calls a.w a2.w HAK.out.wn HAK2.out.wn w4
  obtain ⟨cv, hc⟩ : ∃ cv, wCovers a.w a2.w = cv := ⟨_, rfl⟩
  rw [hc] at hcv
  unfold Yes12 at hcv
  have HCV := Lib.hid hcv
  have HCC := Lib.hid hc
  have r4 := Lib.hid (akc_range Q4.out)
  have r5 := Lib.hid (akc_range P4.out)
  clear hcv hc
  go_wp2_with (first | refine step_load_at_want (o := ⟨some 33, _, _, _, _, _⟩) (by rfl) rfl rfl r4.out Try.underlying26 rfl HWA.out ?_ | refine step_load_at_want (o := ⟨some 35, _, _, _, _, _⟩) (by rfl) rfl rfl r5.out Try.underlying26 rfl HWB.out ?_)
  ((with_reducible refine HCV.out.mono ?_))
  rintro e w5 ⟨rfl, hb⟩
  have L5 := Lib.hid (L4.out.trans (hb.mono L4.out.size))
  have Q5 := Lib.hid (Q4.out.below hb)
  have P5 := Lib.hid (P4.out.below hb)
  have R5 := Lib.hid ((R4.out.below hb).more hb.size)
  have I5 := Lib.hid (I4.out.below hb)
  have J5 := Lib.hid (J4.out.below hb)
  clear hb L4 Q4 P4 R4 I4 J4 HCV r4 r5 x1 x2 q1
  cases cv with
  | false =>
    go_wp2_with fail
    go_ret
    exact ⟨rfl, L5.out⟩
  | true =>
  have hrt : Calls Try.prog 19 #[.agg (wnc a.w).toArray] w5 (Yes12 (wRight a.w) w5) := rright12_calls a.w w5
  obtain ⟨rt, hrr⟩ : ∃ rt, wRight a.w = rt := ⟨_, rfl⟩
  rw [hrr] at hrt
  unfold Yes12 at hrt
  have HRT := Lib.hid hrt
  have HRR := Lib.hid hrr
  have r4 := Lib.hid (akc_range Q5.out)
  clear hrt hrr
  go_wp2_with (refine step_load_at_want (o := ⟨some 41, _, _, _, _, _⟩) (by rfl) rfl rfl r4.out Try.underlying26 rfl HWA.out ?_)
  ((with_reducible refine HRT.out.mono ?_))
  rintro e w6 ⟨rfl, hb⟩
  have L6 := Lib.hid (L5.out.trans (hb.mono L5.out.size))
  have Q6 := Lib.hid (Q5.out.below hb)
  have P6 := Lib.hid (P5.out.below hb)
  have R6 := Lib.hid ((R5.out.below hb).more hb.size)
  have I6 := Lib.hid (I5.out.below hb)
  have J6 := Lib.hid (J5.out.below hb)
  clear hb L5 Q5 P5 R5 I5 J5 HRT r4
  cases rt with
  | false =>
    go_wp2_with fail
    go_ret
    exact ⟨rfl, L6.out⟩
  | true =>
  have hbz := bel_new (Below.refl w6.heap.size w6) (.cells #[.int .u64 0, .int .i64 0, .int .i64 0, .int .u32 0, .int .u32 0, .int .u32 0, .slice none 0 0, .slice none 0 0, .slice none 0 0, .int .i64 0] 31)
  have BZ := Lib.hid (show Blk (w6.alloc (.cells #[.int .u64 0, .int .i64 0, .int .i64 0, .int .u32 0, .int .u32 0, .int .u32 0, .slice none 0 0, .slice none 0 0, .slice none 0 0, .int .i64 0] 31)) w6.heap.size 31 zak16 from Blk.new w6 _ zak16)
  have HBZ := Lib.hid hbz
  clear hbz
  go_upto_region 6 with (first | (refine step_load (o := ⟨some 45, _, _, _, _, _⟩) rfl rfl rfl P6.out Try.underlying31 rfl HIB2.out ?_) | ((with_reducible refine step_store (o := ⟨none, _, _, _, _, _⟩) (vs := akc a2.w p2) (ty := 31) (x := .tmp 7) (y := .tmp 45) ?_ ?_ ?_ ?_ BZ.out HIB2.out rfl (akc_one _ _) ?_); (rfl); (rfl); (rfl); (rfl); intro w7 hb5 hg5 hs5))
  have hb : Below w6.heap.size w6 w7 := bel_upd HBZ.out hg5 (Nat.le_refl _) (Nat.le_refl _)
  have C7 := Lib.hid hb5
  have L7 := Lib.hid (L6.out.trans (hb.mono L6.out.size))
  have Q7 := Lib.hid (Q6.out.below hb)
  have P7 := Lib.hid (P6.out.below hb)
  have R7 := Lib.hid ((R6.out.below hb).more hb.size)
  have I7 := Lib.hid (I6.out.below hb)
  have J7 := Lib.hid (J6.out.below hb)
  have HQL := Lib.hid (show w.heap.size + 1 < w6.heap.size from P6.out.lt)
  clear hb hb5 hg5 hs5 BZ HBZ L6 Q6 P6 R6 I6 J6
  generalize w6.heap.size = qc at *
  clear w6
  obtain ⟨bw2, nn2, nl2, ow2⟩ := a2
  obtain ⟨A1, n1, c1, A2, n2, c2, A3, n3, c3, ho⟩ := p
  obtain ⟨B1, m1, d1, B2, m2, d2, B3, m3, d3, hp⟩ := p2
  simp only at HPN HPM
  obtain ⟨G1, g1, v1, r1, ha1, hv1, _⟩ := grow16 (c := c1) (ty := 27) ei_length ei_one (by omega) Try.underlying27 infoInt rfl (by omega) (show Below w7.heap.size w7 w7.drew from (Below.refl _ _).drew) (show Row ei w7 w7.heap.size A1 n1 a.nn from I7.out.nn) (by have := HPN.out.1; omega)
  obtain ⟨G2, g2, v2, r2, ha2, hv2⟩ := more16 (d := d1) (ty := 27) ei_length ei_one (by omega) Try.underlying27 infoInt rfl (by omega) hv1 ha1 (show a.nn.length = n1 from I7.out.nn.1) ((show Row ei w7 w7.heap.size B1 m1 nn2 from J7.out.nn).below hv1) (by have := HPN.out.1; have := HPM.out.1; omega)
  have R1 := Lib.hid r1
  have RR2 := Lib.hid r2
  have HA2 := Lib.hid ha2
  have HV1 := Lib.hid hv1
  have HV2 := Lib.hid hv2
  clear r1 r2 ha1 ha2 hv1 hv2
  have hsc : (w7.drew).cell? ⟨w.heap.size, 6, none⟩ = some (.slice A1 n1 c1) ∧ (w7.drew).cell? ⟨w.heap.size + 1, 6, none⟩ = some (.slice B1 m1 d1) := ⟨Q7.out.cell 6, P7.out.cell 6⟩
  have HSC := Lib.hid hsc
  have HS1 := Lib.hid (show v1.cell? ⟨w.heap.size, 6, none⟩ = some (.slice A1 n1 c1) ∧ v1.cell? ⟨w.heap.size + 1, 6, none⟩ = some (.slice B1 m1 d1) from ⟨(Q7.out.below HV1.out).cell 6, (P7.out.below HV1.out).cell 6⟩)
  have HS2 := Lib.hid (show v2.cell? ⟨w.heap.size, 6, none⟩ = some (.slice A1 n1 c1) ∧ v2.cell? ⟨w.heap.size + 1, 6, none⟩ = some (.slice B1 m1 d1) from ⟨(Q7.out.below HV2.out).cell 6, (P7.out.below HV2.out).cell 6⟩)
  have C8 := Lib.hid (C7.out.below HV2.out)
  clear hsc
  go_wp2_with fail
  refine region_seq (fun W => W.cell? ⟨w.heap.size, 6, none⟩ = some (.slice A1 n1 c1) ∧ W.cell? ⟨w.heap.size + 1, 6, none⟩ = some (.slice B1 m1 d1)) [(0, true), (1, true), (3, true), (4, true), (2, false), (5, false), (6, true), (7, false)] (by kernel_rfl) (by kernel_rfl) (by kernel_rfl) (by kernel_rfl) (fun _ _ _ _ _ h => h) HSC.out ?_
  repeat
    refine seq_pure (v := ?_) rfl (by rfl) (fun W hW => ?_) ?_
    rotate_left
    · have t1 := hW.1
      have t2 := hW.2
      clear hW
      go_simp
      with_reducible rfl
    simp only [Act.put, List.setIfInBounds_toArray, List.set_cons_zero, List.set_cons_succ]
  refine seq_make rfl (by rfl) (fun K hK => ?_)
  refine op_append rfl rfl rfl R1.out ?_
  simp only [Act.put, List.setIfInBounds_toArray, List.set_cons_zero, List.set_cons_succ]
  refine hK _ v1 (fun W => W.cell? ⟨w.heap.size, 6, none⟩ = some (.slice A1 n1 c1) ∧ W.cell? ⟨w.heap.size + 1, 6, none⟩ = some (.slice B1 m1 d1)) (fun W h => h) HS1.out ?_
  clear hK K
  refine seq_make rfl (by rfl) (fun K hK => ?_)
  refine op_append rfl rfl rfl RR2.out ?_
  simp only [Act.put, List.setIfInBounds_toArray, List.set_cons_zero, List.set_cons_succ]
  refine hK _ v2 (fun W => W.cell? ⟨w.heap.size, 6, none⟩ = some (.slice A1 n1 c1) ∧ W.cell? ⟨w.heap.size + 1, 6, none⟩ = some (.slice B1 m1 d1)) (fun W h => h) HS2.out ?_
  clear hK K
  refine seq_pure (v := ?_) rfl (by rfl) (fun W hW => ?_) ?_
  rotate_left
  · clear hW
    go_simp
    with_reducible rfl
  simp only [Act.put, List.setIfInBounds_toArray, List.set_cons_zero, List.set_cons_succ]
  refine seq_make rfl (by rfl) (fun K hK => ?_)
  have cc6 : v2.cell? ⟨qc, 6, none⟩ = some (.slice B1 m1 d1) := C8.out.cell 6
  have ff6 := C8.out.free 6
  go_simp
  clear cc6 ff6
  refine hK _ _ (fun W => W.cell? ⟨w.heap.size, 6, none⟩ = some (.slice A1 n1 c1) ∧ W.cell? ⟨w.heap.size + 1, 6, none⟩ = some (.slice B1 m1 d1)) (fun W h => h) ⟨((Q7.out.below HV2.out).other (p := ⟨qc, 6, none⟩) (by have := HQL.out; simp only; omega) _).cell 6, ((P7.out.below HV2.out).other (p := ⟨qc, 6, none⟩) (by have := HQL.out; simp only; omega) _).cell 6⟩ ?_
  clear hK K
  refine seq_done ?_
  have C9 := Lib.hid (show Blk (v2.setCell ⟨qc, 6, none⟩ (.slice G2 (n1 + m1) g2)) qc 31 (akc bw2 ⟨G2, n1 + m1, g2, B2, m2, d2, B3, m3, d3, hp⟩) from C8.out.set 6 _)
  have S9 := Lib.hid (show w7.heap.size ≤ (v2.setCell ⟨qc, 6, none⟩ (.slice G2 (n1 + m1) g2)).heap.size from Nat.le_trans HV2.out.size (by simp))
  have K9 := Lib.hid (show Below qc w7 (v2.setCell ⟨qc, 6, none⟩ (.slice G2 (n1 + m1) g2)) from (HV2.out.mono (Nat.le_of_lt C7.out.lt)).setCell (p := ⟨qc, 6, none⟩) (Nat.le_refl _) _)
  have Q9 := Lib.hid (show Blk (v2.setCell ⟨qc, 6, none⟩ (.slice G2 (n1 + m1) g2)) w.heap.size 31 (akc a.w ⟨A1, n1, c1, A2, n2, c2, A3, n3, c3, ho⟩) from Q7.out.same (K9.out.block _ (by have := HQL.out; omega)))
  have P9 := Lib.hid (show Blk (v2.setCell ⟨qc, 6, none⟩ (.slice G2 (n1 + m1) g2)) (w.heap.size + 1) 31 (akc bw2 ⟨B1, m1, d1, B2, m2, d2, B3, m3, d3, hp⟩) from P7.out.same (K9.out.block _ (by have := HQL.out; omega)))
  have L9 := Lib.hid (show Below w.heap.size w (v2.setCell ⟨qc, 6, none⟩ (.slice G2 (n1 + m1) g2)) from (L7.out.trans (HV2.out.mono L7.out.size)).setCell (p := ⟨qc, 6, none⟩) (by have := HQL.out; simp only; omega) _)
  have AA9 := Lib.hid (show AccR ei 1 (v2.setCell ⟨qc, 6, none⟩ (.slice G2 (n1 + m1) g2)) w7.heap.size 3 G2 g2 (a.nn ++ nn2) from accr_setBelow16 HA2.out (p := ⟨qc, 6, none⟩) C7.out.lt _)
  have HC7 := Lib.hid C7.out.lt
  clear C8 HS1 HS2 HSC HV1 HV2 HA2 R1 RR2 K9 Q7 P7 C7 L7 R7 I7 J7
  generalize v2.setCell ⟨qc, 6, none⟩ (.slice G2 (n1 + m1) g2) = w9 at *
  obtain ⟨H1, h1, u1, r1, ha1, hv1, _⟩ := grow16 (c := c2) (ty := 28) prc_length prc_one (by omega) Try.underlying28 infoPrA16 rfl (by omega) (show Below w9.heap.size w9 w9.drew from (Below.refl _ _).drew) (show Row prc w9 w9.heap.size A2 n2 a.nl from (HAR0.out.2.1.below L9.out).more L9.out.size) (by have := HPN.out.2; omega)
  obtain ⟨H2, h2, u2, r2, ha2, hv2⟩ := more16 (d := d2) (ty := 28) prc_length prc_one (by omega) Try.underlying28 infoPrA16 rfl (by omega) hv1 ha1 (show a.nl.length = n2 from HAR0.out.2.1.1) ((show Row prc w9 w9.heap.size B2 m2 nl2 from (HAR20.out.2.1.below L9.out).more L9.out.size).below hv1) (by have := HPN.out.2; have := HPM.out.2; omega)
  have R1 := Lib.hid r1
  have RR2 := Lib.hid r2
  have HA2 := Lib.hid ha2
  have HV1 := Lib.hid hv1
  have HV2 := Lib.hid hv2
  clear r1 r2 ha1 ha2 hv1 hv2
  have HSC := Lib.hid (show (w9.drew).cell? ⟨w.heap.size, 7, none⟩ = some (.slice A2 n2 c2) ∧ (w9.drew).cell? ⟨w.heap.size + 1, 7, none⟩ = some (.slice B2 m2 d2) from ⟨Q9.out.cell 7, P9.out.cell 7⟩)
  have HS1 := Lib.hid (show u1.cell? ⟨w.heap.size, 7, none⟩ = some (.slice A2 n2 c2) ∧ u1.cell? ⟨w.heap.size + 1, 7, none⟩ = some (.slice B2 m2 d2) from ⟨(Q9.out.below HV1.out).cell 7, (P9.out.below HV1.out).cell 7⟩)
  have HS2 := Lib.hid (show u2.cell? ⟨w.heap.size, 7, none⟩ = some (.slice A2 n2 c2) ∧ u2.cell? ⟨w.heap.size + 1, 7, none⟩ = some (.slice B2 m2 d2) from ⟨(Q9.out.below HV2.out).cell 7, (P9.out.below HV2.out).cell 7⟩)
  have C10 := Lib.hid (C9.out.below HV2.out)
  have A10 := Lib.hid (AccR.bel AA9.out HV2.out)
  go_wp2_with fail
  refine region_seq (fun W => W.cell? ⟨w.heap.size, 7, none⟩ = some (.slice A2 n2 c2) ∧ W.cell? ⟨w.heap.size + 1, 7, none⟩ = some (.slice B2 m2 d2)) [(0, true), (1, true), (3, true), (4, true), (2, false), (5, false), (6, true), (7, false)] (by kernel_rfl) (by kernel_rfl) (by kernel_rfl) (by kernel_rfl) (fun _ _ _ _ _ h => h) HSC.out ?_
  repeat
    refine seq_pure (v := ?_) rfl (by rfl) (fun W hW => ?_) ?_
    rotate_left
    · have t1 := hW.1
      have t2 := hW.2
      clear hW
      go_simp
      with_reducible rfl
    simp only [Act.put, List.setIfInBounds_toArray, List.set_cons_zero, List.set_cons_succ]
  refine seq_make rfl (by rfl) (fun K hK => ?_)
  refine op_append rfl rfl rfl R1.out ?_
  simp only [Act.put, List.setIfInBounds_toArray, List.set_cons_zero, List.set_cons_succ]
  refine hK _ u1 (fun W => W.cell? ⟨w.heap.size, 7, none⟩ = some (.slice A2 n2 c2) ∧ W.cell? ⟨w.heap.size + 1, 7, none⟩ = some (.slice B2 m2 d2)) (fun W h => h) HS1.out ?_
  clear hK K
  refine seq_make rfl (by rfl) (fun K hK => ?_)
  refine op_append rfl rfl rfl RR2.out ?_
  simp only [Act.put, List.setIfInBounds_toArray, List.set_cons_zero, List.set_cons_succ]
  refine hK _ u2 (fun W => W.cell? ⟨w.heap.size, 7, none⟩ = some (.slice A2 n2 c2) ∧ W.cell? ⟨w.heap.size + 1, 7, none⟩ = some (.slice B2 m2 d2)) (fun W h => h) HS2.out ?_
  clear hK K
  refine seq_pure (v := ?_) rfl (by rfl) (fun W hW => ?_) ?_
  rotate_left
  · clear hW
    go_simp
    with_reducible rfl
  simp only [Act.put, List.setIfInBounds_toArray, List.set_cons_zero, List.set_cons_succ]
  refine seq_make rfl (by rfl) (fun K hK => ?_)
  have cc6 : u2.cell? ⟨qc, 7, none⟩ = some (.slice B2 m2 d2) := C10.out.cell 7
  have ff6 := C10.out.free 7
  go_simp
  clear cc6 ff6
  refine hK _ _ (fun W => W.cell? ⟨w.heap.size, 7, none⟩ = some (.slice A2 n2 c2) ∧ W.cell? ⟨w.heap.size + 1, 7, none⟩ = some (.slice B2 m2 d2)) (fun W h => h) ⟨((Q9.out.below HV2.out).other (p := ⟨qc, 7, none⟩) (by have := HQL.out; simp only; omega) _).cell 7, ((P9.out.below HV2.out).other (p := ⟨qc, 7, none⟩) (by have := HQL.out; simp only; omega) _).cell 7⟩ ?_
  clear hK K
  refine seq_done ?_
  have C11 := Lib.hid (show Blk (u2.setCell ⟨qc, 7, none⟩ (.slice H2 (n2 + m2) h2)) qc 31 (akc bw2 ⟨G2, n1 + m1, g2, H2, n2 + m2, h2, B3, m3, d3, hp⟩) from C10.out.set 7 _)
  have Q11 := Lib.hid ((Q9.out.below HV2.out).other (p := ⟨qc, 7, none⟩) (by have := HQL.out; simp only; omega) (.slice H2 (n2 + m2) h2))
  have L11 := Lib.hid (show Below w.heap.size w (u2.setCell ⟨qc, 7, none⟩ (.slice H2 (n2 + m2) h2)) from (L9.out.trans (HV2.out.mono L9.out.size)).setCell (p := ⟨qc, 7, none⟩) (by have := HQL.out; simp only; omega) _)
  have A11 := Lib.hid (show AccR ei 1 (u2.setCell ⟨qc, 7, none⟩ (.slice H2 (n2 + m2) h2)) w7.heap.size 3 G2 g2 (a.nn ++ nn2) from accr_setBelow16 A10.out (p := ⟨qc, 7, none⟩) HC7.out _)
  have D11 := Lib.hid (show AccR prc 2 (u2.setCell ⟨qc, 7, none⟩ (.slice H2 (n2 + m2) h2)) w9.heap.size 56 H2 h2 (a.nl ++ nl2) from accr_setBelow16 HA2.out (p := ⟨qc, 7, none⟩) C9.out.lt _)
  have HC9 := Lib.hid C9.out.lt
  clear C10 HS1 HS2 HSC HV1 HV2 HA2 R1 RR2 Q9 P9 C9 L9 AA9 A10 S9
  generalize u2.setCell ⟨qc, 7, none⟩ (.slice H2 (n2 + m2) h2) = w11 at *
  have cc8 : w11.cell? ⟨qc, 8, none⟩ = some (.slice B3 m3 d3) := C11.out.cell 8
  have ff8 := C11.out.free 8
  go_upto_region 9 with fail
  clear cc8 ff8
  have C12 := Lib.hid (show Blk (w11.setCell ⟨qc, 8, none⟩ (.slice none 0 0)) qc 31 (akc bw2 ⟨G2, n1 + m1, g2, H2, n2 + m2, h2, none, 0, 0, hp⟩) from C11.out.set 8 _)
  have Q12 := Lib.hid (Q11.out.other (p := ⟨qc, 8, none⟩) (by have := HQL.out; simp only; omega) (.slice none 0 0))
  have L12 := Lib.hid (show Below w.heap.size w (w11.setCell ⟨qc, 8, none⟩ (.slice none 0 0)) from L11.out.setCell (p := ⟨qc, 8, none⟩) (by have := HQL.out; simp only; omega) _)
  have A12 := Lib.hid (show AccR ei 1 (w11.setCell ⟨qc, 8, none⟩ (.slice none 0 0)) w7.heap.size 3 G2 g2 (a.nn ++ nn2) from accr_setBelow16 A11.out (p := ⟨qc, 8, none⟩) HC7.out _)
  have D12 := Lib.hid (show AccR prc 2 (w11.setCell ⟨qc, 8, none⟩ (.slice none 0 0)) w9.heap.size 56 H2 h2 (a.nl ++ nl2) from accr_setBelow16 D11.out (p := ⟨qc, 8, none⟩) HC9.out _)
  clear C11 Q11 L11 A11 D11
  generalize w11.setCell ⟨qc, 8, none⟩ (.slice none 0 0) = w12 at *
  have R12 := Lib.hid ((HR0.out.below L12.out).more L12.out.size)
  have I12 := Lib.hid ((HAR0.out.below L12.out).akin HSA.out)
  have IC := Lib.hid (show AkIn w12 w12.heap.size ⟨bw2, a.nn ++ nn2, a.nl ++ nl2, []⟩ ⟨G2, n1 + m1, g2, H2, n2 + m2, h2, none, 0, 0, hp⟩ from ⟨by
      have := AccR.row A12.out
      rwa [List.length_append, HAR0.out.1.1, HAR20.out.1.1] at this, by
      have := AccR.row D12.out
      rwa [List.length_append, HAR0.out.2.1.1, HAR20.out.2.1.1] at this, Row.nil, by have := HPN.out.1; have := HPM.out.1; simp only; omega, by have := HPN.out.2; have := HPM.out.2; simp only; omega, by simp⟩)
  have HOC := Lib.hid (show AkOk ⟨bw2, a.nn ++ nn2, a.nl ++ nl2, []⟩ from ⟨HAK2.out.wn, by simp⟩)
  have HLS := Lib.hid (fun (x : Ad) (h : fit16 ⟨bw2, a.nn ++ nn2, a.nl ++ nl2, []⟩ x = true) => fit16_less (a := a) (b := ⟨bw2, nn2, nl2, ow2⟩) HSU.out HCC.out HRR.out h)
  have HIC := Lib.hid (HIB.out ⟨G2, n1 + m1, g2, H2, n2 + m2, h2, none, 0, 0, hp⟩)
  clear A12 D12 HAR0 HAR20 HR0 HC7 HC9 HSU HCC HRR HIB HIB2 HWA HWB HSA HSB HPN HPM HAK2

  generalize hpc : (⟨G2, n1 + m1, g2, H2, n2 + m2, h2, none, 0, 0, hp⟩ : Pl) = pc at *
  generalize hca : (⟨bw2, a.nn ++ nn2, a.nl ++ nl2, []⟩ : Ak) = ca at *
  have hcw : ca.w = bw2 := by rw [← hca]
  rw [← hcw] at C12 HIC
  clear hpc hca hcw
  generalize hpa : (⟨A1, n1, c1, A2, n2, c2, A3, n3, c3, ho⟩ : Pl) = pa at *
  clear hpa
  go_wp2_with fail
  go_loopw [63] (fun s W => ∃ i : Nat, i ≤ n ∧ s = .int .i64 (i : Int) ∧ Below w12.heap.size w12 W) (fun s W => n - (intOf s).toNat)
  case atStart => exact ⟨0, Nat.zero_le _, rfl, Below.refl _ _⟩
  case round =>
    obtain ⟨i, hi, rfl, hbl⟩ := hrel
    have HBL := Lib.hid hbl
    clear hbl
    by_cases hin : i < n
    · have i1 : (i : Int) < (n : Int) := by omega
      obtain ⟨bb, o, x, rfl, hx, hbb, hc⟩ := range15 R12.out hin
      have HXO := Lib.hid (HX.out x (List.mem_of_getElem? hx))
      have HII := Lib.hid hin
      have HC := Lib.hid (hc wr HBL.out)
      have HIX := Lib.hid (HIN.out x)
      clear hx hbb hc hin hi
      have hbz := bel_new (Below.refl wr.heap.size wr) (.cells #[.int .i64 0, .int .i64 0, .int .u64 0, .int .i64 0, .int .u32 0, .int .i64 0, .bool false, .int .u64 0, .int .u64 0, .int .u64 0, .int .u64 0, .int .u64 0, .int .u64 0, .int .u64 0, .int .u64 0] 38)
      have BZ := Lib.hid (show Blk (wr.alloc (.cells #[.int .i64 0, .int .i64 0, .int .u64 0, .int .i64 0, .int .u32 0, .int .i64 0, .bool false, .int .u64 0, .int .u64 0, .int .u64 0, .int .u64 0, .int .u64 0, .int .u64 0, .int .u64 0, .int .u64 0] 38)) wr.heap.size 38 zr16 from Blk.new wr _ zr16)
      have HBZ := Lib.hid hbz
      clear hbz
      go_upto_region 12 with (first | (refine step_load_at (o := ⟨some 66, _, _, _, _, _⟩) rfl rfl rfl HC.out Try.underlying38 rfl HIX.out ?_) | ((with_reducible refine step_store (o := ⟨none, _, _, _, _, _⟩) (vs := adc x) (ty := 38) (x := .tmp 9) (y := .tmp 66) ?_ ?_ ?_ ?_ BZ.out HIX.out rfl (adc_one _) ?_); (rfl); (rfl); (rfl); (rfl); intro v3 hb5 hg5 hs5))
      have KX := Lib.hid hb5
      have hb : Below wr.heap.size wr v3 := bel_upd HBZ.out hg5 (Nat.le_refl _) (Nat.le_refl _)
      clear hb5 hg5 hs5 BZ HBZ
      have L5 := Lib.hid (show Below w12.heap.size w12 v3 from HBL.out.trans (hb.mono HBL.out.size))
      have QA5 := Lib.hid (Q12.out.below L5.out)
      have QC5 := Lib.hid (C12.out.below L5.out)
      have IA5 := Lib.hid (I12.out.below L5.out)
      have IC5 := Lib.hid (IC.out.below L5.out)
      clear hb HBL HC
      generalize wr.heap.size = qx at *
      have KXB := Lib.hid (fun W (hW : Below v3.heap.size v3 W) => KX.out.below hW)
      have QAB := Lib.hid (fun W (hW : Below v3.heap.size v3 W) => QA5.out.below hW)
      have QCB := Lib.hid (fun W (hW : Below v3.heap.size v3 W) => QC5.out.below hW)
      have HT1 := Lib.hid (theirs15_calls x)
      unfold Back15 at HT1
      have HTA := Lib.hid (fun W (hW : Below v3.heap.size v3 W) => theirs16_calls a pa W (IA5.out.below hW))
      have HTC := Lib.hid (fun W (hW : Below v3.heap.size v3 W) => theirs16_calls ca pc W (IC5.out.below hW))
      unfold Th16 at HTA HTC
      have hfa := fun W (q : Pl) (hq : AkIn W W.heap.size a q) => fits16c_calls a HAK.out q x HXO.out W hq
      have hfc := fun W (q : Pl) (hq : AkIn W W.heap.size ca q) => fits16c_calls ca HOC.out q x HXO.out W hq
      have hls := HLS.out x
      unfold Yes15 at hfa hfc
      cases hd : fit16 ca x with
      | true =>
        rw [hls hd] at hfa
        rw [hd] at hfc
        have HFA := Lib.hid hfa
        have HFC := Lib.hid hfc
        clear hfa hfc hls hd
        go_wp2_with fail
        refine region_seq (fun W => Below v3.heap.size v3 W) [(0, true), (2, true), (1, false), (3, false), (4, false), (5, true), (6, true), (8, true), (7, false), (9, false), (10, false), (11, true), (12, true)] (by kernel_rfl) (by kernel_rfl) (by kernel_rfl) (by kernel_rfl) (fun _ _ _ _ _ h => h) (Below.refl _ _).drew ?_
        repeat first
          | refine seq_load8 (x := .tmp 9) rfl (by rfl) rfl rfl KXB.out Try.underlying38 rfl HIX.out ?_
            simp only [Act.put, List.setIfInBounds_toArray, List.set_cons_zero, List.set_cons_succ]
          | refine seq_load8 (x := .tmp 7) rfl (by rfl) rfl rfl QCB.out Try.underlying31 rfl HIC.out ?_
            simp only [Act.put, List.setIfInBounds_toArray, List.set_cons_zero, List.set_cons_succ]
          | refine seq_load8 (x := .tmp 4) rfl (by rfl) rfl rfl QAB.out Try.underlying31 rfl HIA.out ?_
            simp only [Act.put, List.setIfInBounds_toArray, List.set_cons_zero, List.set_cons_succ]
          | refine seq_pure (v := ?_) rfl (by rfl) (fun W hW => ?_) ?_
            rotate_left
            · clear hW
              go_simp
              with_reducible rfl
            simp only [Act.put, List.setIfInBounds_toArray, List.set_cons_zero, List.set_cons_succ]
          | refine seq_skip rfl (by rfl) ?_
            simp only [Act.put, List.setIfInBounds_toArray, List.set_cons_zero, List.set_cons_succ]
        refine seq_make rfl (by rfl) (fun K hK => ?_)
        go_simp
        ((with_reducible refine (HT1.out v3.drew).mono ?_))
        rintro e z1 ⟨rfl, hb⟩
        have SB := Lib.hid (show Below v3.heap.size v3 z1 from below_of_drew hb)

        clear hb
        go_simp
        refine hK _ z1 (fun W => Below v3.heap.size v3 W) (fun W h => h) SB.out ?_
        clear hK K
        refine seq_make rfl (by rfl) (fun K hK => ?_)
        go_simp
        ((with_reducible refine (HTC.out z1 SB.out).mono ?_))
        rintro e z2 ⟨A9, c9, rfl, hac, hb⟩
        have SB0 := SB
        have SB := Lib.hid (show Below v3.heap.size v3 z2 from SB.out.trans (hb.mono SB.out.size))
        have I9 := Lib.hid (Th16.akin (IC5.out.below SB0.out) hac hb)
        have I6 := Lib.hid (HFC.out z2 _ I9.out)
        clear hac I9
        clear hb
        go_simp
        refine hK _ z2 (fun W => Below v3.heap.size v3 W) (fun W h => h) SB.out ?_
        clear hK K
        refine seq_make rfl (by rfl) (fun K hK => ?_)
        go_simp
        ((with_reducible refine (I6.out).mono ?_))
        rintro e z3 ⟨rfl, hb⟩
        have SB := Lib.hid (show Below v3.heap.size v3 z3 from SB.out.trans (hb.mono SB.out.size))

        clear hb
        go_simp
        refine hK _ z3 (fun W => Below v3.heap.size v3 W) (fun W h => h) SB.out ?_
        clear hK K
        repeat first
          | refine seq_load8 (x := .tmp 9) rfl (by rfl) rfl rfl KXB.out Try.underlying38 rfl HIX.out ?_
            simp only [Act.put, List.setIfInBounds_toArray, List.set_cons_zero, List.set_cons_succ]
          | refine seq_load8 (x := .tmp 7) rfl (by rfl) rfl rfl QCB.out Try.underlying31 rfl HIC.out ?_
            simp only [Act.put, List.setIfInBounds_toArray, List.set_cons_zero, List.set_cons_succ]
          | refine seq_load8 (x := .tmp 4) rfl (by rfl) rfl rfl QAB.out Try.underlying31 rfl HIA.out ?_
            simp only [Act.put, List.setIfInBounds_toArray, List.set_cons_zero, List.set_cons_succ]
          | refine seq_pure (v := ?_) rfl (by rfl) (fun W hW => ?_) ?_
            rotate_left
            · clear hW
              go_simp
              with_reducible rfl
            simp only [Act.put, List.setIfInBounds_toArray, List.set_cons_zero, List.set_cons_succ]
          | refine seq_skip rfl (by rfl) ?_
            simp only [Act.put, List.setIfInBounds_toArray, List.set_cons_zero, List.set_cons_succ]
        refine seq_make rfl (by rfl) (fun K hK => ?_)
        go_simp
        ((with_reducible refine (HT1.out z3).mono ?_))
        rintro e z4 ⟨rfl, hb⟩
        have SB := Lib.hid (show Below v3.heap.size v3 z4 from SB.out.trans (hb.mono SB.out.size))

        clear hb
        go_simp
        refine hK _ z4 (fun W => Below v3.heap.size v3 W) (fun W h => h) SB.out ?_
        clear hK K
        refine seq_make rfl (by rfl) (fun K hK => ?_)
        go_simp
        ((with_reducible refine (HTA.out z4 SB.out).mono ?_))
        rintro e z5 ⟨A9, c9, rfl, hac, hb⟩
        have SB0 := SB
        have SB := Lib.hid (show Below v3.heap.size v3 z5 from SB.out.trans (hb.mono SB.out.size))
        have I9 := Lib.hid (Th16.akin (IA5.out.below SB0.out) hac hb)
        have I6 := Lib.hid (HFA.out z5 _ I9.out)
        clear hac I9
        clear hb
        go_simp
        refine hK _ z5 (fun W => Below v3.heap.size v3 W) (fun W h => h) SB.out ?_
        clear hK K
        refine seq_make rfl (by rfl) (fun K hK => ?_)
        go_simp
        ((with_reducible refine (I6.out).mono ?_))
        rintro e z6 ⟨rfl, hb⟩
        have SB := Lib.hid (show Below v3.heap.size v3 z6 from SB.out.trans (hb.mono SB.out.size))

        clear hb
        go_simp
        refine hK _ z6 (fun W => Below v3.heap.size v3 W) (fun W h => h) SB.out ?_
        clear hK K
        repeat first
          | refine seq_load8 (x := .tmp 9) rfl (by rfl) rfl rfl KXB.out Try.underlying38 rfl HIX.out ?_
            simp only [Act.put, List.setIfInBounds_toArray, List.set_cons_zero, List.set_cons_succ]
          | refine seq_load8 (x := .tmp 7) rfl (by rfl) rfl rfl QCB.out Try.underlying31 rfl HIC.out ?_
            simp only [Act.put, List.setIfInBounds_toArray, List.set_cons_zero, List.set_cons_succ]
          | refine seq_load8 (x := .tmp 4) rfl (by rfl) rfl rfl QAB.out Try.underlying31 rfl HIA.out ?_
            simp only [Act.put, List.setIfInBounds_toArray, List.set_cons_zero, List.set_cons_succ]
          | refine seq_pure (v := ?_) rfl (by rfl) (fun W hW => ?_) ?_
            rotate_left
            · clear hW
              go_simp
              with_reducible rfl
            simp only [Act.put, List.setIfInBounds_toArray, List.set_cons_zero, List.set_cons_succ]
          | refine seq_skip rfl (by rfl) ?_
            simp only [Act.put, List.setIfInBounds_toArray, List.set_cons_zero, List.set_cons_succ]
        refine seq_done ?_
        have L6 := Lib.hid (L5.out.trans (SB.out.mono L5.out.size))
        clear SB L5 QA5 QC5 IA5 IC5 KXB QAB QCB HT1 HTA HTC KX HFA HFC
        go_wp2_with fail
        go_roundw
        case rel => exact ⟨i + 1, HII.out, by first | rfl | (simp; omega), L6.out⟩
        case measure => have := HII.out; simp [intOf]; omega
      | false =>
        rw [hd] at hfc
        have HFC := Lib.hid hfc
        have HFA := Lib.hid hfa
        clear hfa hfc hls hd
        go_wp2_with fail
        refine region_seq (fun W => Below v3.heap.size v3 W) [(0, true), (2, true), (1, false), (3, false), (4, false), (5, true), (6, true), (8, true), (7, false), (9, false), (10, false), (11, true), (12, true)] (by kernel_rfl) (by kernel_rfl) (by kernel_rfl) (by kernel_rfl) (fun _ _ _ _ _ h => h) (Below.refl _ _).drew ?_
        repeat first
          | refine seq_load8 (x := .tmp 9) rfl (by rfl) rfl rfl KXB.out Try.underlying38 rfl HIX.out ?_
            simp only [Act.put, List.setIfInBounds_toArray, List.set_cons_zero, List.set_cons_succ]
          | refine seq_load8 (x := .tmp 7) rfl (by rfl) rfl rfl QCB.out Try.underlying31 rfl HIC.out ?_
            simp only [Act.put, List.setIfInBounds_toArray, List.set_cons_zero, List.set_cons_succ]
          | refine seq_load8 (x := .tmp 4) rfl (by rfl) rfl rfl QAB.out Try.underlying31 rfl HIA.out ?_
            simp only [Act.put, List.setIfInBounds_toArray, List.set_cons_zero, List.set_cons_succ]
          | refine seq_pure (v := ?_) rfl (by rfl) (fun W hW => ?_) ?_
            rotate_left
            · clear hW
              go_simp
              with_reducible rfl
            simp only [Act.put, List.setIfInBounds_toArray, List.set_cons_zero, List.set_cons_succ]
          | refine seq_skip rfl (by rfl) ?_
            simp only [Act.put, List.setIfInBounds_toArray, List.set_cons_zero, List.set_cons_succ]
        refine seq_make rfl (by rfl) (fun K hK => ?_)
        go_simp
        ((with_reducible refine (HT1.out v3.drew).mono ?_))
        rintro e z1 ⟨rfl, hb⟩
        have SB := Lib.hid (show Below v3.heap.size v3 z1 from below_of_drew hb)

        clear hb
        go_simp
        refine hK _ z1 (fun W => Below v3.heap.size v3 W) (fun W h => h) SB.out ?_
        clear hK K
        refine seq_make rfl (by rfl) (fun K hK => ?_)
        go_simp
        ((with_reducible refine (HTC.out z1 SB.out).mono ?_))
        rintro e z2 ⟨A9, c9, rfl, hac, hb⟩
        have SB0 := SB
        have SB := Lib.hid (show Below v3.heap.size v3 z2 from SB.out.trans (hb.mono SB.out.size))
        have I9 := Lib.hid (Th16.akin (IC5.out.below SB0.out) hac hb)
        have I6 := Lib.hid (HFC.out z2 _ I9.out)
        clear hac I9
        clear hb
        go_simp
        refine hK _ z2 (fun W => Below v3.heap.size v3 W) (fun W h => h) SB.out ?_
        clear hK K
        refine seq_make rfl (by rfl) (fun K hK => ?_)
        go_simp
        ((with_reducible refine (I6.out).mono ?_))
        rintro e z3 ⟨rfl, hb⟩
        have SB := Lib.hid (show Below v3.heap.size v3 z3 from SB.out.trans (hb.mono SB.out.size))

        clear hb
        go_simp
        refine hK _ z3 (fun W => Below v3.heap.size v3 W) (fun W h => h) SB.out ?_
        clear hK K
        repeat first
          | refine seq_load8 (x := .tmp 9) rfl (by rfl) rfl rfl KXB.out Try.underlying38 rfl HIX.out ?_
            simp only [Act.put, List.setIfInBounds_toArray, List.set_cons_zero, List.set_cons_succ]
          | refine seq_load8 (x := .tmp 7) rfl (by rfl) rfl rfl QCB.out Try.underlying31 rfl HIC.out ?_
            simp only [Act.put, List.setIfInBounds_toArray, List.set_cons_zero, List.set_cons_succ]
          | refine seq_load8 (x := .tmp 4) rfl (by rfl) rfl rfl QAB.out Try.underlying31 rfl HIA.out ?_
            simp only [Act.put, List.setIfInBounds_toArray, List.set_cons_zero, List.set_cons_succ]
          | refine seq_pure (v := ?_) rfl (by rfl) (fun W hW => ?_) ?_
            rotate_left
            · clear hW
              go_simp
              with_reducible rfl
            simp only [Act.put, List.setIfInBounds_toArray, List.set_cons_zero, List.set_cons_succ]
          | refine seq_skip rfl (by rfl) ?_
            simp only [Act.put, List.setIfInBounds_toArray, List.set_cons_zero, List.set_cons_succ]
        refine seq_unmake rfl (by rfl) SB.out ?_
        simp only [Act.put, List.setIfInBounds_toArray, List.set_cons_zero, List.set_cons_succ]
        refine seq_unmake rfl (by rfl) SB.out ?_
        simp only [Act.put, List.setIfInBounds_toArray, List.set_cons_zero, List.set_cons_succ]
        refine seq_unmake rfl (by rfl) SB.out ?_
        simp only [Act.put, List.setIfInBounds_toArray, List.set_cons_zero, List.set_cons_succ]
        repeat first
          | refine seq_load8 (x := .tmp 9) rfl (by rfl) rfl rfl KXB.out Try.underlying38 rfl HIX.out ?_
            simp only [Act.put, List.setIfInBounds_toArray, List.set_cons_zero, List.set_cons_succ]
          | refine seq_load8 (x := .tmp 7) rfl (by rfl) rfl rfl QCB.out Try.underlying31 rfl HIC.out ?_
            simp only [Act.put, List.setIfInBounds_toArray, List.set_cons_zero, List.set_cons_succ]
          | refine seq_load8 (x := .tmp 4) rfl (by rfl) rfl rfl QAB.out Try.underlying31 rfl HIA.out ?_
            simp only [Act.put, List.setIfInBounds_toArray, List.set_cons_zero, List.set_cons_succ]
          | refine seq_pure (v := ?_) rfl (by rfl) (fun W hW => ?_) ?_
            rotate_left
            · clear hW
              go_simp
              with_reducible rfl
            simp only [Act.put, List.setIfInBounds_toArray, List.set_cons_zero, List.set_cons_succ]
          | refine seq_skip rfl (by rfl) ?_
            simp only [Act.put, List.setIfInBounds_toArray, List.set_cons_zero, List.set_cons_succ]
        refine seq_done ?_
        have L6 := Lib.hid (L5.out.trans (SB.out.mono L5.out.size))
        clear SB L5 QA5 QC5 IA5 IC5 KXB QAB QCB HT1 HTA HTC KX HFA HFC
        go_wp2_with fail
        go_roundw
        case rel => exact ⟨i + 1, HII.out, by first | rfl | (simp; omega), L6.out⟩
        case measure => have := HII.out; simp [intOf]; omega
    · obtain rfl : i = n := by omega
      have i1 : ¬ (i : Int) < (i : Int) := by omega
      have L6 := Lib.hid (L12.out.trans (HBL.out.mono L12.out.size))
      clear hin hi
      go_wp2_with fail
      go_ret
      exact ⟨rfl, L6.out⟩
end Go.Proofs.Ytmffmoflelnmoaa
