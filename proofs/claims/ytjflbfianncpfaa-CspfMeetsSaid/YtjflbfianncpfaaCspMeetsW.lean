/-
  The law CspfMeets, walked, under what the code must keep: for any case and any question the answer is true, and nothing that was there has turned. Condition: FindOk17; the arguments' numbers are as large as their types allow.
-/
import Derived.Test.YtjflbfianncpfaaCspC
namespace Go.Proofs.Ytjflbfianncpfaa
set_option maxRecDepth 100000
set_option linter.unusedVariables false
open Go.RowKit

set_option maxHeartbeats 12800000 in
theorem cmeets17_walk (hF : FindOk17) (n f t : Int) (b : Option Addr) (m c : Nat) (a : Ak) (p : Pl) (w : World) (hi : I15 n ∧ I15 f ∧ I15 t ∧ I15 p.h) (ho : ∃ l, Row adc w w.heap.size b m l ∧ ∀ x ∈ l, AdOk x ∧ I15 x.q) (hk : AkOk a ∧ AkRow w a p) :
    Calls Try.prog 4 #[.agg (csc n b m c f t).toArray, .agg (akc a.w p).toArray] w fun e w' => e = .returned (.bool true) ∧ Below w.heap.size w w' := by
  obtain ⟨l, hr, hx⟩ := ho
  have HX := Lib.hid (fun x h => (hx x h).1)
  have HAK := Lib.hid hk.1
  have HI := Lib.hid hi
  obtain ⟨b0, b1, bl⟩ := alloc2 w (csc n b m c f t) (akc a.w p) 24 33
  have HB := Lib.hid b0
  have HQ := Lib.hid b1
  have HL := Lib.hid bl
  have HR0 := Lib.hid hr
  have HAR0 := Lib.hid hk.2
  have HIA := Lib.hid (fun q => (show (Try.prog.info? 33).map (·.size) = some (akc a.w q).length from infoAkR))
  have HIA0 := Lib.hid (HIA.out p)
  have HIC := Lib.hid (show (Try.prog.info? 24).map (·.size) = some (csc n b m c f t).length from by kernel_rfl)
  have HFN := Lib.hid (fun (q : Pl) W (hq : AkIn W W.heap.size a q) (hr : Row adc W W.heap.size b m l) (hm : m ≤ 1073741824) (hh : I15 q.h) => find17_calls hF n f t b m c l a q W HX.out HAK.out hq hr hm HI.out.1 HI.out.2.1 HI.out.2.2.1 hh)
  have HAL := Lib.hid (fun W => alive17_calls hF W)
  unfold Fnd17 at HFN
  clear hx hr hk b0 b1 bl hi hF
  go_enter Try.func4, Try.ntmps4
  go_upto_region 1 with fail
  generalize ((w.alloc (.cells (csc n b m c f t).toArray 24)).alloc _) = w1 at *
  go_wp2_with fail
  ((with_reducible refine (HAL.out w1).mono ?_))
  rintro e w2 ⟨rfl, hb⟩
  have L2 := Lib.hid (HL.out.trans (hb.mono HL.out.size))
  have B2 := Lib.hid (HB.out.below hb)
  have Q2 := Lib.hid (HQ.out.below hb)
  clear hb HL HB HQ HAL
  have hsm := small16_calls b m c a.w p w2
  unfold Yes15 at hsm
  obtain ⟨sm, hs⟩ : ∃ sm, sml16 m p = sm := ⟨_, rfl⟩
  rw [hs] at hsm
  have HS := Lib.hid hs
  have HSM := Lib.hid hsm
  have x1 : w2.cell? ⟨w.heap.size, 1, none⟩ = some (.slice b m c) := B2.out.cell 1
  clear hs hsm
  go_wp2_with (refine step_load (o := ⟨some 14, _, _, _, _, _⟩) rfl rfl rfl Q2.out Try.underlying33 rfl HIA0.out ?_)
  ((with_reducible refine HSM.out.mono ?_))
  rintro e w3 ⟨rfl, hb⟩
  have L3 := Lib.hid (L2.out.trans (hb.mono L2.out.size))
  have B3 := Lib.hid (B2.out.below hb)
  have Q3 := Lib.hid (Q2.out.below hb)
  clear hb L2 B2 Q2 HSM x1
  cases sm with
  | false =>
    go_wp2_with fail
    go_ret
    exact ⟨rfl, L3.out⟩
  | true =>
  have HM1 := Lib.hid (show m ≤ 100 by have := HS.out; unfold sml16 at this; simp only [Bool.and_eq_true, decide_eq_true_eq] at this; exact this.1)
  have hfi := HFN.out p w3 ((HAR0.out.below L3.out).akin HS.out) ((HR0.out.below L3.out).more L3.out.size) (by have := HM1.out; omega) HI.out.2.2.2
  have HFI := Lib.hid hfi
  clear hfi
  go_wp2_with (first | refine step_load (o := ⟨some 18, _, _, _, _, _⟩) rfl rfl rfl B3.out Try.underlying24 rfl HIC.out ?_ | refine step_load (o := ⟨some 19, _, _, _, _, _⟩) rfl rfl rfl Q3.out Try.underlying33 rfl HIA0.out ?_)
  ((with_reducible refine HFI.out.mono ?_))
  rintro e w4 ⟨A4, c4, r, co, er, rfl, hac, hb, hcs⟩
  have L4 := Lib.hid (L3.out.trans (hb.mono L3.out.size))
  have B4 := Lib.hid (B3.out.below hb)
  have Q4 := Lib.hid (Q3.out.below hb)
  have G4 := Lib.hid (AccR.row hac)
  have GC := Lib.hid (AccR.cap hac).1
  have HCS := Lib.hid hcs
  clear hb hac hcs HFI L3 B3 Q3
  by_cases he : er = 0
  case neg =>
    have hz : r = [] ∧ co = 0 := by
      by_cases hok : ok17 n l a p.h f t
      · rcases HCS.out.good hok with h | h
        · exact absurd h.1 he
        · exact ⟨h.2.1, h.2.2.1⟩
      · exact ⟨(HCS.out.bad hok).1, (HCS.out.bad hok).2.1⟩
    obtain ⟨rfl, rfl⟩ := hz
    have q1 : (er != 0) = true := by simpa using he
    clear he
    rw [List.length_nil]
    go_wp2_with fail
    go_ret
    exact ⟨rfl, L4.out⟩
  subst he
  obtain ⟨hok, hbest⟩ := csp17_ok HCS.out
  have hln := ok17_len hok hbest.1.1
  have hc := chk17 hok.1
  have HSL := Lib.hid (small_net (ok17_net hok).1)
  have hap : Apart (lks16 l a) := apart_sub (apart_of_chk hok.1)
  have hro := hbest.1.1.route hap hln.1 hln.2
  have HRO := Lib.hid hro
  have HLI := Lib.hid hbest.1.2
  have h0 := hbest.1.1.at0
  have hE := hbest.1.1.atEnd
  obtain ⟨N, hN⟩ : ∃ N, r.length = N := ⟨_, rfl⟩
  have HN := Lib.hid hN
  have hN1 : 2 ≤ N := by rw [← hN]; exact hln.1
  have hN2 : N ≤ 16 := by rw [← hN]; exact hln.2
  have G4' := Lib.hid (show Row ei w4 w4.heap.size A4 N r from by rw [← hN]; exact G4.out)
  have GC' := Lib.hid (show N ≤ c4 from by rw [← hN]; exact GC.out)
  rw [hN] at hE ⊢
  obtain ⟨bb, o, rfl, hbw, hcell⟩ := row_int G4'.out (by omega)
  have hc0 : r[0]? = some f := by
    rw [List.getD_eq_getElem?_getD] at h0
    rw [List.getElem?_eq_getElem (by omega)] at h0 ⊢
    simpa using h0
  have hcE : r[N - 1]? = some t := by
    rw [List.getD_eq_getElem?_getD] at hE
    rw [List.getElem?_eq_getElem (by omega)] at hE ⊢
    simpa using hE
  have HC0 := Lib.hid (fun W (hW : Below w4.heap.size w4 W) => (show W.cell? ⟨bb, o + 0, none⟩ = some (.int .i64 f) from by
    have := hcell 0 (by omega)
    rw [List.getElem?_eq_getElem (by omega)] at hc0
    injection hc0 with hc0
    rw [hW.cell (p := ⟨bb, o + 0, none⟩) hbw, this, hc0]))
  have HCE := Lib.hid (fun W (hW : Below w4.heap.size w4 W) => (show W.cell? ⟨bb, o + (N - 1), none⟩ = some (.int .i64 t) from by
    have := hcell (N - 1) (by omega)
    rw [List.getElem?_eq_getElem (by omega)] at hcE
    injection hcE with hcE
    rw [hW.cell (p := ⟨bb, o + (N - 1), none⟩) hbw, this, hcE]))
  have BB := Lib.hid (fun W (hW : Below w4.heap.size w4 W) => B4.out.below hW)
  have QB := Lib.hid (fun W (hW : Below w4.heap.size w4 W) => Q4.out.below hW)
  have HMT := Lib.hid (fun W (hW : Below w4.heap.size w4 W) => rmeets17_calls a HAK.out p b m c l HX.out (some ⟨bb, o, none⟩) N c4 r W ((HAR0.out.below (L4.out.trans (hW.mono L4.out.size))).akin HS.out) ((HR0.out.below (L4.out.trans (hW.mono L4.out.size))).more (L4.out.trans (hW.mono L4.out.size)).size) ((G4'.out.below hW).more hW.size) (by have := HM1.out; omega) GC'.out (by omega) HSL.out HI.out.2.2.2)
  obtain ⟨M, hM⟩ : ∃ M : Nat, M + 1 = N := ⟨N - 1, by omega⟩
  have hM2 : N - 1 = M := by omega
  rw [hM2] at HCE
  have HM := Lib.hid hM
  have i1 : ¬ (N : Int) < 2 := by omega
  have i2 : decide ((N : Int) < 2) = false := decide_eq_false i1
  have i3 : (N : Int) - 1 = (M : Int) := by omega
  have i6 : IntKind.i64.wrap (M : Int) = (M : Int) := by rw [IntWalk.i64_in _ (by omega)]
  have i4 : (M : Int) < (N : Int) := by omega
  have i5 : (0 : Int) < (N : Int) := by omega
  have n1 : M < N := by omega
  have n2 : 0 < N := by omega
  have q1 : (f != f) = false := by simp
  have q2 : (t != t) = false := by simp
  clear hok hbest hln hc hap hro h0 hE hN hM hM2 hc0 hcE hcell hbw G4 GC HCS
  go_wp2_with fail
  refine region_seq (fun W => Below w4.heap.size w4 W) [(0, true), (1, true), (2, true), (3, true), (4, true), (5, true), (6, true), (7, true), (8, true), (9, true), (10, true), (11, true), (12, true), (13, true), (14, true), (15, true), (16, true), (17, true), (18, true), (19, true), (20, true), (21, true), (22, true), (23, true), (24, true), (25, true), (26, true), (27, false), (28, true), (29, true)] (by kernel_rfl) (by kernel_rfl) (by kernel_rfl) (by kernel_rfl) (fun _ _ _ _ _ h => h) (Below.refl _ _).drew ?_
  repeat first
    | refine seq_load8 (x := .tmp 3) rfl (by rfl) rfl rfl QB.out Try.underlying33 rfl HIA0.out ?_
      simp only [Act.put, List.setIfInBounds_toArray, List.set_cons_zero, List.set_cons_succ]
    | refine seq_pure (v := ?_) rfl (by rfl) (fun W hW => ?_) ?_
      rotate_left
      · have hbx := BB.out W hW
        have t1 : W.cell? ⟨w.heap.size, 1, none⟩ = some (.slice b m c) := hbx.cell 1
        have t2 : W.cell? ⟨w.heap.size, 2, none⟩ = some (.int .i64 f) := hbx.cell 2
        have t3 : W.cell? ⟨w.heap.size, 3, none⟩ = some (.int .i64 t) := hbx.cell 3
        have t4 : W.cell? ⟨bb, o + 0, none⟩ = some (.int .i64 f) := HC0.out W hW
        have t5 : W.cell? ⟨bb, o + M, none⟩ = some (.int .i64 t) := HCE.out W hW
        have t6 : W.cell? ⟨bb, o, none⟩ = some (.int .i64 f) := HC0.out W hW
        clear hbx
        clear hW
        go_simp
        with_reducible rfl
      simp only [Act.put, List.setIfInBounds_toArray, List.set_cons_zero, List.set_cons_succ]
  refine seq_make rfl (by rfl) (fun K hK => ?_)
  go_simp
  ((with_reducible refine (HMT.out w4.drew (Below.refl _ _).drew).mono ?_))
  rintro e y1 ⟨B, rfl, hB, hb⟩
  have SB := Lib.hid (show Below w4.heap.size w4 y1 from below_of_drew hb)
  obtain rfl : B = true := hB.2 ⟨HRO.out.1, HLI.out⟩
  clear hB
  clear hb
  go_simp
  refine hK _ y1 (fun W => Below w4.heap.size w4 W) (fun W h => h) SB.out ?_
  clear hK K
  repeat first
    | refine seq_pure (v := ?_) rfl (by rfl) (fun W hW => ?_) ?_
      rotate_left
      · clear hW
        go_simp
        with_reducible rfl
      simp only [Act.put, List.setIfInBounds_toArray, List.set_cons_zero, List.set_cons_succ]
  refine seq_done ?_
  have L5 := Lib.hid (L4.out.trans (SB.out.mono L4.out.size))
  have B5 := Lib.hid (B4.out.below SB.out)
  have Q5 := Lib.hid (Q4.out.below SB.out)
  have G5 := Lib.hid ((G4'.out.below SB.out).more SB.out.size)
  have hlk := rlinks16_calls a HAK.out p b m c l HX.out y1 ((HAR0.out.below L5.out).akin HS.out) ((HR0.out.below L5.out).more L5.out.size) (by have := HM1.out; omega)
  unfold Lks16 at hlk
  have HLK := Lib.hid hlk
  have HML := Lib.hid (show (lks16 l a).length ≤ 1073741824 by have := lks16_length l a; have := HR0.out.1; have := HM1.out; omega)
  clear hlk SB L4 B4 Q4 G4' HMT HC0 HCE BB QB i1 i2 i4 i5 n1 n2 q1 q2
  have x1 : y1.cell? ⟨w.heap.size, 1, none⟩ = some (.slice b m c) := B5.out.cell 1
  go_wp2_with (refine step_load (o := ⟨some 66, _, _, _, _, _⟩) rfl rfl rfl Q5.out Try.underlying33 rfl HIA0.out ?_)
  ((with_reducible refine HLK.out.mono ?_))
  rintro e y2 ⟨A6, c6, rfl, hac, hb⟩
  have L6 := Lib.hid (L5.out.trans (hb.mono L5.out.size))
  have hrr := rroute_calls A6 (some ⟨bb, o, none⟩) (lks16 l a).length c6 N c4 _ _ (lks16 l a) r y2 (AccR.row hac) (G5.out.below hb) HML.out GC'.out (by omega) HSL.out
  have HRR := Lib.hid hrr
  clear hb hac hrr HLK L5 B5 Q5 G5 x1
  go_wp2_with fail
  ((with_reducible refine HRR.out.mono ?_))
  rintro e y3 ⟨⟨k, rfl⟩, hcs⟩
  have L7 := Lib.hid (bel_drewN L6.out k)
  clear HRR L6
  have hv : e = .returned (.tuple #[.int .i64 co, .int .i64 0]) := by
    rcases hcs with ⟨_, h⟩ | ⟨h, _⟩
    · rw [h, HRO.out.2]
    · exact absurd HRO.out.1 h
  subst hv
  clear hcs
  generalize y2.drewN k = y3 at *
  have q3 : (co == co) = true := by simp
  go_wp2_with fail
  go_ret
  exact ⟨rfl, L7.out⟩
end Go.Proofs.Ytjflbfianncpfaa
