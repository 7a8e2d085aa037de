/-
  The law CspfNone, walked, under what the code must keep: for any case, any question and any route the answer is true, and nothing that was there has turned. Condition: FindOk17; the arguments' numbers are as large as their types allow.
-/
import Derived.Test.YtjflbfianncpfaaCspD
namespace Go.Proofs.Ytjflbfianncpfaa
set_option maxRecDepth 100000
set_option linter.unusedVariables false
open Go.RowKit

set_option maxHeartbeats 12800000 in
theorem cnone17_walk (hF : FindOk17) (n f t : Int) (b : Option Addr) (m c : Nat) (a : Ak) (p : Pl) (q : Option Addr) (NN d : Nat) (w : World) (hi : I15 n ∧ I15 f ∧ I15 t ∧ I15 p.h) (ho : ∃ l, Row adc w w.heap.size b m l ∧ ∀ x ∈ l, AdOk x ∧ I15 x.q) (hk : AkOk a ∧ AkRow w a p) (hq : NN ≤ d ∧ d ≤ maxLen ∧ ∃ rr, Row ei w w.heap.size q NN rr ∧ ∀ y ∈ rr, I15 y) :
    Calls Try.prog 5 #[.agg (csc n b m c f t).toArray, .agg (akc a.w p).toArray, .slice q NN d] w fun e w' => e = .returned (.bool true) ∧ Below w.heap.size w w' := by
  obtain ⟨l, hr, hx⟩ := ho
  obtain ⟨hnd, hdm, rr, hrr, hri⟩ := hq
  have HRI := Lib.hid hri
  have HRR := Lib.hid hrr
  have HND := Lib.hid hnd
  have HRL := Lib.hid hrr.1
  unfold maxLen at hdm
  have hn63 : NN ≤ 9223372036854775807 := by omega
  have HX := Lib.hid (fun x h => (hx x h).1)
  have HAK := Lib.hid hk.1
  have HI := Lib.hid hi
  obtain ⟨b0, b1, bl⟩ := alloc2 w (csc n b m c f t) (akc a.w p) 24 33
  have HB := Lib.hid b0
  have HQ := Lib.hid b1
  have HL := Lib.hid bl
  have HR0 := Lib.hid hr
  have HAR0 := Lib.hid hk.2
  have HIA := Lib.hid (fun q => (show (Try.prog.info? 33).map (·.size) = some (akc a.w q).length from infoAkR))
  have HIA0 := Lib.hid (HIA.out p)
  have HIC := Lib.hid (show (Try.prog.info? 24).map (·.size) = some (csc n b m c f t).length from by kernel_rfl)
  have HFN := Lib.hid (fun (q : Pl) W (hq : AkIn W W.heap.size a q) (hr : Row adc W W.heap.size b m l) (hm : m ≤ 1073741824) (hh : I15 q.h) => find17_calls hF n f t b m c l a q W HX.out HAK.out hq hr hm HI.out.1 HI.out.2.1 HI.out.2.2.1 hh)
  have HAL := Lib.hid (fun W => alive17_calls hF W)
  unfold Fnd17 at HFN
  have HF := Lib.hid hF
  clear hx hr hk b0 b1 bl hi hF hnd hdm hrr hri
  go_enter Try.func5, Try.ntmps5
  go_upto_region 1 with fail
  generalize ((w.alloc (.cells (csc n b m c f t).toArray 24)).alloc _) = w1 at *
  go_wp2_with fail
  ((with_reducible refine (HAL.out w1).mono ?_))
  rintro e w2 ⟨rfl, hb⟩
  have L2 := Lib.hid (HL.out.trans (hb.mono HL.out.size))
  have B2 := Lib.hid (HB.out.below hb)
  have Q2 := Lib.hid (HQ.out.below hb)
  clear hb HL HB HQ HAL
  have hsm := small16_calls b m c a.w p w2
  unfold Yes15 at hsm
  obtain ⟨sm, hs⟩ : ∃ sm, sml16 m p = sm := ⟨_, rfl⟩
  rw [hs] at hsm
  have HS := Lib.hid hs
  have HSM := Lib.hid hsm
  have x1 : w2.cell? ⟨w.heap.size, 1, none⟩ = some (.slice b m c) := B2.out.cell 1
  clear hs hsm
  go_wp2_with (refine step_load (o := ⟨some 19, _, _, _, _, _⟩) rfl rfl rfl Q2.out Try.underlying33 rfl HIA0.out ?_)
  ((with_reducible refine HSM.out.mono ?_))
  rintro e w3 ⟨rfl, hb⟩
  have L3 := Lib.hid (L2.out.trans (hb.mono L2.out.size))
  have B3 := Lib.hid (B2.out.below hb)
  have Q3 := Lib.hid (Q2.out.below hb)
  clear hb L2 B2 Q2 HSM x1
  cases sm with
  | false =>
    go_wp2_with fail
    go_ret
    exact ⟨rfl, L3.out⟩
  | true =>
  have HM1 := Lib.hid (show m ≤ 100 by have := HS.out; unfold sml16 at this; simp only [Bool.and_eq_true, decide_eq_true_eq] at this; exact this.1)
  by_cases h2 : NN < 2
  · have i1 : (NN : Int) < 2 := by omega
    clear h2
    go_wp2_with fail
    go_ret
    exact ⟨rfl, L3.out⟩
  by_cases h100 : 100 < NN
  · have i1 : ¬ (NN : Int) < 2 := by omega
    have i2 : (100 : Int) < (NN : Int) := by omega
    clear h2 h100
    go_wp2_with fail
    go_ret
    exact ⟨rfl, L3.out⟩
  have i1 : decide ((NN : Int) < 2) = false := decide_eq_false (by omega)
  have i2 : decide ((100 : Int) < (NN : Int)) = false := decide_eq_false (by omega)
  have HNN := Lib.hid (show 2 ≤ NN ∧ NN ≤ 100 by omega)
  have j1 : ¬ (NN : Int) < 2 := by omega
  have j2 : ¬ (100 : Int) < (NN : Int) := by omega
  clear h2 h100
  have HMT := Lib.hid (rmeets17a_calls a HAK.out p b m c l HX.out q NN d rr w3 ((HAR0.out.below L3.out).akin HS.out) ((HR0.out.below L3.out).more L3.out.size) ((HRR.out.below L3.out).more L3.out.size) (by have := HM1.out; omega) HND.out (by have := HNN.out; omega) HI.out.2.2.2)
  have x1 : w3.cell? ⟨w.heap.size, 1, none⟩ = some (.slice b m c) := B3.out.cell 1
  go_wp2_with (first | refine step_load_want (o := ⟨some 35, _, _, _, _, _⟩) (by rfl) rfl rfl Q3.out Try.underlying33 rfl HIA0.out ?_)
  ((with_reducible refine HMT.out.mono ?_))
  rintro e w4 ⟨B, rfl, hB, hb⟩
  have L4 := Lib.hid (L3.out.trans (hb.mono L3.out.size))
  have B4 := Lib.hid (B3.out.below hb)
  have Q4 := Lib.hid (Q3.out.below hb)
  have HBB := Lib.hid hB
  clear hb hB L3 B3 Q3 HMT x1
  cases B with
  | false =>
    go_wp2_with fail
    go_ret
    exact ⟨rfl, L4.out⟩
  | true =>
  obtain ⟨hro, hli⟩ := HBB.out.1 rfl
  have HRO := Lib.hid hro
  have HLI := Lib.hid hli
  clear hro hli HBB
  -- the route's ends
  obtain ⟨bb, o, rfl, hbw, hcell⟩ := row_int HRR.out (by have := HNN.out; omega)
  obtain ⟨M, hM⟩ : ∃ M : Nat, M + 1 = NN := ⟨NN - 1, by have := HNN.out; omega⟩
  obtain ⟨f0, hf0⟩ : ∃ f0, rr.getD 0 0 = f0 := ⟨_, rfl⟩
  obtain ⟨t0, ht0⟩ : ∃ t0, rr.getD (rr.length - 1) 0 = t0 := ⟨_, rfl⟩
  have HCO := Lib.hid (fun W (hW : Below w.heap.size w W) => (show W.cell? ⟨bb, o, none⟩ = some (.int .i64 f0) ∧ W.cell? ⟨bb, o + M, none⟩ = some (.int .i64 t0) from by
    have hl := HRL.out
    have hn := HNN.out
    have c0 := hcell 0 (by omega)
    have cM := hcell M (by omega)
    have e0 : rr[0]'(by omega) = f0 := by rw [← hf0, List.getD_eq_getElem?_getD, List.getElem?_eq_getElem (by omega)]; rfl
    have eM : rr[M]'(by omega) = t0 := by
      have hM2 : rr.length - 1 = M := by omega
      rw [← ht0, hM2, List.getD_eq_getElem?_getD, List.getElem?_eq_getElem (by omega)]; rfl
    rw [e0] at c0
    rw [eM] at cM
    exact ⟨by rw [hW.cell (p := ⟨bb, o, none⟩) hbw]; exact c0, by rw [hW.cell (p := ⟨bb, o + M, none⟩) hbw]; exact cM⟩))
  have HFT := Lib.hid (And.intro hf0 ht0)
  have HI15 := Lib.hid (show I15 f0 ∧ I15 t0 from by
    have hl := HRL.out
    have hn := HNN.out
    have g0 : rr.getD 0 0 = rr[0]'(by omega) := by rw [List.getD_eq_getElem?_getD, List.getElem?_eq_getElem (by omega)]; rfl
    have gt : rr.getD (rr.length - 1) 0 = rr[rr.length - 1]'(by omega) := by rw [List.getD_eq_getElem?_getD, List.getElem?_eq_getElem (by omega)]; rfl
    refine ⟨?_, ?_⟩
    · rw [← hf0, g0]; exact HRI.out _ (List.getElem_mem _)
    · rw [← ht0, gt]; exact HRI.out _ (List.getElem_mem _))
  have HMM := Lib.hid hM
  clear hcell hbw hf0 ht0 i1 i2 j1 j2
  have hdr := (Below.refl w4.heap.size w4).drew
  have C0 := Lib.hid (HCO.out w4.drew (L4.out.trans (hdr.mono L4.out.size)))
  have BD := Lib.hid (B4.out.below hdr)
  have QD := Lib.hid (Q4.out.below hdr)
  have LD := Lib.hid (L4.out.trans (hdr.mono L4.out.size))
  have i3 : (NN : Int) - 1 = (M : Int) := by omega
  have i6 : IntKind.i64.wrap (M : Int) = (M : Int) := by have := HNN.out; rw [IntWalk.i64_in _ (by omega)]
  have i4 : (M : Int) < (NN : Int) := by omega
  have i5 : (0 : Int) < (NN : Int) := by omega
  have n1 : M < NN := by omega
  have n2 : 0 < NN := by omega
  clear hdr hM
  go_wp2_with fail
  refine region_seq (fun W => W.cell? ⟨bb, o, none⟩ = some (.int .i64 f0) ∧ W.cell? ⟨bb, o + M, none⟩ = some (.int .i64 t0)) [(0, true), (1, true), (2, true), (3, true), (4, true), (5, true), (6, true), (7, true), (8, true), (9, true), (10, false), (11, true), (12, false)] (by kernel_rfl) (by kernel_rfl) (by kernel_rfl) (by kernel_rfl) (fun _ _ _ _ _ h => h) C0.out ?_
  repeat
    refine seq_pure (v := ?_) rfl (by rfl) (fun W hW => ?_) ?_
    rotate_left
    · have t1 := hW.1
      have t2 := hW.2
      clear hW
      go_simp
      with_reducible rfl
    simp only [Act.put, List.setIfInBounds_toArray, List.set_cons_zero, List.set_cons_succ]
  clear i3 i6 i4 i5 n1 n2
  generalize w4.drew = v0 at *
  have hne : bb ≠ w.heap.size := by
    obtain ⟨b', o', e', hb', _⟩ := HRR.out.2 (by have := HNN.out; omega)
    injection e' with e'
    injection e' with e1 _ _
    omega
  refine seq_make rfl (by rfl) (fun K hK => ?_)
  have cc := BD.out.cell 2
  have ff := BD.out.free 2
  have cc2 : v0.cell? ⟨w.heap.size, 2, none⟩ = some (.int .i64 f) := cc
  clear cc
  go_simp
  clear cc2 ff
  refine hK _ _ (fun W => W.cell? ⟨bb, o, none⟩ = some (.int .i64 f0) ∧ W.cell? ⟨bb, o + M, none⟩ = some (.int .i64 t0)) (fun W h => h) ⟨(World.cell?_of_block (w := v0) (Below.heap_setCell _ _ _ _ (by simpa using hne))).trans C0.out.1, (World.cell?_of_block (w := v0) (Below.heap_setCell _ _ _ _ (by simpa using hne))).trans C0.out.2⟩ ?_
  clear hK K
  have B1 := Lib.hid (show Blk (v0.setCell ⟨w.heap.size, 2, none⟩ (.int .i64 f0)) w.heap.size 24 (csc n b m c f0 t) from BD.out.set 2 _)
  have Q1 := Lib.hid (QD.out.other (p := ⟨w.heap.size, 2, none⟩) (by simp) (.int .i64 f0))
  have L1 := Lib.hid (show Below w.heap.size w (v0.setCell ⟨w.heap.size, 2, none⟩ (.int .i64 f0)) from LD.out.setCell (p := ⟨w.heap.size, 2, none⟩) (Nat.le_refl _) _)
  clear BD QD LD C0
  generalize v0.setCell ⟨w.heap.size, 2, none⟩ (.int .i64 f0) = v1 at *
  refine seq_pure (v := ?_) rfl (by rfl) (fun W hW => ?_) ?_
  rotate_left
  · clear hW
    go_simp
    with_reducible rfl
  simp only [Act.put, List.setIfInBounds_toArray, List.set_cons_zero, List.set_cons_succ]
  refine seq_make rfl (by rfl) (fun K hK => ?_)
  have cc2 : v1.cell? ⟨w.heap.size, 3, none⟩ = some (.int .i64 t) := B1.out.cell 3
  have ff := B1.out.free 3
  go_simp
  clear cc2 ff
  have B2 := Lib.hid (show Blk (v1.setCell ⟨w.heap.size, 3, none⟩ (.int .i64 t0)) w.heap.size 24 (csc n b m c f0 t0) from B1.out.set 3 _)
  have Q2 := Lib.hid (Q1.out.other (p := ⟨w.heap.size, 3, none⟩) (by simp) (.int .i64 t0))
  have L2 := Lib.hid (show Below w.heap.size w (v1.setCell ⟨w.heap.size, 3, none⟩ (.int .i64 t0)) from L1.out.setCell (p := ⟨w.heap.size, 3, none⟩) (Nat.le_refl _) _)
  clear B1 Q1 L1
  refine hK _ _ (fun W => W.cell? ⟨bb, o, none⟩ = some (.int .i64 f0) ∧ W.cell? ⟨bb, o + M, none⟩ = some (.int .i64 t0)) (fun W h => h) (HCO.out _ L2.out) ?_
  clear hK K
  refine seq_done ?_
  generalize v1.setCell ⟨w.heap.size, 3, none⟩ (.int .i64 t0) = w5 at *
  have hfi := find17_calls HF.out n f0 t0 b m c l a p w5 HX.out HAK.out ((HAR0.out.below L2.out).akin HS.out) ((HR0.out.below L2.out).more L2.out.size) (by have := HM1.out; omega) HI.out.1 HI15.out.1 HI15.out.2 HI.out.2.2.2
  unfold Fnd17 at hfi
  have HFI := Lib.hid hfi
  have HIC2 := Lib.hid (show (Try.prog.info? 24).map (·.size) = some (csc n b m c f0 t0).length from by kernel_rfl)
  clear hfi
  go_wp2_with (first | refine step_load (o := ⟨some 52, _, _, _, _, _⟩) rfl rfl rfl B2.out Try.underlying24 rfl HIC2.out ?_ | refine step_load (o := ⟨some 53, _, _, _, _, _⟩) rfl rfl rfl Q2.out Try.underlying33 rfl HIA0.out ?_)
  ((with_reducible refine HFI.out.mono ?_))
  rintro e w6 ⟨A6, c6, r, co, er, rfl, hac, hb, hcs⟩
  have L6 := Lib.hid (L2.out.trans (hb.mono L2.out.size))
  have B6 := Lib.hid (B2.out.below hb)
  have Q6 := Lib.hid (Q2.out.below hb)
  have G6 := Lib.hid (AccR.row hac)
  have HCS := Lib.hid hcs
  clear hb hac hcs HFI L2 B2 Q2
  by_cases hok : ok17 n l a p.h f0 t0
  case neg =>
    have her : er = 2 := (HCS.out.bad hok).2.2
    subst her
    have HRF := Lib.hid (rfind17_bad n f0 t0 b m c l a p w6 ((HR0.out.below L6.out).more L6.out.size) (by have := HM1.out; omega) hok)
    have y0 : w6.cell? ⟨w.heap.size, 0, none⟩ = some (.int .i64 n) := B6.out.cell 0
    have y1 : w6.cell? ⟨w.heap.size, 1, none⟩ = some (.slice b m c) := B6.out.cell 1
    have y2 : w6.cell? ⟨w.heap.size, 2, none⟩ = some (.int .i64 f0) := B6.out.cell 2
    have y3 : w6.cell? ⟨w.heap.size, 3, none⟩ = some (.int .i64 t0) := B6.out.cell 3
    clear hok
    go_wp2_with (first | refine step_load (o := ⟨some 65, _, _, _, _, _⟩) rfl rfl rfl Q6.out Try.underlying33 rfl HIA0.out ?_)
    ((with_reducible refine HRF.out.mono ?_))
    rintro e w7 ⟨rfl, hb⟩
    have L7 := Lib.hid (L6.out.trans (hb.mono L6.out.size))
    clear hb HRF
    go_wp2_with fail
    go_ret
    exact ⟨rfl, L7.out⟩
  have HOK := Lib.hid hok
  have hwy := route_wy_all HRO.out
  rw [HFT.out.1, HFT.out.2] at hwy
  have hgood : er = 0 ∧ Best17 (lks16 l a) p.h f0 t0 co r := by
    rcases HCS.out.good hok with h | h
    · exact h
    · exact absurd HLI.out (h.2.2.2 _ _ hwy)
  obtain ⟨rfl, hbest⟩ := hgood
  have hnb := hbest.2 _ _ hwy HLI.out
  have hln := ok17_len hok hbest.1.1
  have HSL := Lib.hid (small_net (ok17_net hok).1)
  have hlk := rlinks16_calls a HAK.out p b m c l HX.out w6 ((HAR0.out.below L6.out).akin HS.out) ((HR0.out.below L6.out).more L6.out.size) (by have := HM1.out; omega)
  unfold Lks16 at hlk
  have HLK := Lib.hid hlk
  have HML := Lib.hid (show (lks16 l a).length ≤ 1073741824 by have := lks16_length l a; have := HR0.out.1; have := HM1.out; omega)
  have x1 : w6.cell? ⟨w.heap.size, 1, none⟩ = some (.slice b m c) := B6.out.cell 1
  have HNB := Lib.hid hnb
  have HLN := Lib.hid hln
  clear hlk hok hwy hbest hnb hln
  go_wp2_with (refine step_load (o := ⟨some 79, _, _, _, _, _⟩) rfl rfl rfl Q6.out Try.underlying33 rfl HIA0.out ?_)
  ((with_reducible refine HLK.out.mono ?_))
  rintro e w7 ⟨A7, c7, rfl, hac, hb⟩
  have L7 := Lib.hid (L6.out.trans (hb.mono L6.out.size))
  have G7 := Lib.hid ((G6.out.below hb).more hb.size)
  have hrr := rroute_calls A7 (some ⟨bb, o, none⟩) (lks16 l a).length c7 NN d _ _ (lks16 l a) rr w7 (AccR.row hac) (HRR.out.below L7.out) HML.out HND.out (by have := HNN.out; omega) HSL.out
  have HRT := Lib.hid hrr
  clear hb hac hrr HLK L6 B6 Q6 G6 x1
  go_wp2_with fail
  ((with_reducible refine HRT.out.mono ?_))
  rintro e w8 ⟨⟨k, rfl⟩, hcs⟩
  have L8 := Lib.hid (bel_drewN L7.out k)
  have G8 := Lib.hid (show Row ei (w7.drewN k) (w7.drewN k).heap.size A6 r.length r from G7.out.drewN k)
  clear HRT L7 G7
  obtain ⟨cc, hcc⟩ : ∃ cc, cst (lks16 l a) rr rr.length = cc := ⟨_, rfl⟩
  rw [hcc] at hcs HNB
  have hv : e = .returned (.tuple #[.int .i64 cc, .int .i64 0]) := by
    rcases hcs with ⟨_, h⟩ | ⟨h, _⟩
    · exact h
    · exact absurd HRO.out h
  subst hv
  clear hcs hcc
  generalize w7.drewN k = w8 at *
  have hbt := rbetter_calls cc co (some ⟨bb, o, none⟩) A6 NN r.length d c6 _ _ rr r w8 ((HRR.out.below L8.out)) G8.out (by have := HNN.out; omega) (by have := HLN.out.2; omega)
  unfold BetPost at hbt
  rw [decide_eq_false HNB.out] at hbt
  have HBT := Lib.hid hbt
  clear hbt
  go_wp2_with fail
  ((with_reducible refine HBT.out.mono ?_))
  rintro e w9 ⟨rfl, j, rfl⟩
  have L9 := Lib.hid (bel_drewN L8.out j)
  clear HBT L8 G8
  go_wp2_with fail
  go_ret
  exact ⟨rfl, L9.out⟩
end Go.Proofs.Ytjflbfianncpfaa
