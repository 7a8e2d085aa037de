/-
  The law PruneDown, walked: for any adverts and any question the answer is true, and nothing that was there has turned. Condition: the arguments' numbers are as large as their types allow.
-/
import Derived.Test.YtmffmoflelnmoaaPruV
namespace Go.Proofs.Ytmffmoflelnmoaa
set_option maxRecDepth 100000
set_option linter.unusedVariables false
open Go.RowKit

def zakD16 : List Value := #[.int .u64 0, .int .i64 0, .int .i64 0, .int .u32 0, .int .u32 0, .int .u32 0, .slice none 0 0, .slice none 0 0, .slice none 0 0, .int .i64 0].toList
theorem AkIn.keep {v W : World} {B : Nat} {a : Ak} {p : Pl} (h : AkIn v B a p) (hb : Below B v W) (hs : B ≤ W.heap.size) : AkIn W W.heap.size a p :=
  ⟨(h.nn.below hb).more hs, (h.nl.below hb).more hs, (h.ow.below hb).more hs, h.b1, h.b2, h.b3⟩
theorem row_one16 {α : Type} {en : α → List Value} {w : World} {T : TypeId} {x : α} : Row en (w.alloc (.cells (en x).toArray T)) (w.heap.size + 1) (some ⟨w.heap.size, 0, none⟩) 1 [x] := by
  refine ⟨rfl, fun _ => ⟨w.heap.size, 0, rfl, Nat.lt_succ_self _, fun i hi => ?_⟩⟩
  have hb := Blk.new w T (en x)
  rw [Nat.zero_add, hb.cell i]
  simp only [List.flatMap_cons, List.flatMap_nil, List.append_nil] at hi ⊢
  exact List.getElem?_eq_getElem hi
set_option maxHeartbeats 12800000 in
theorem pdown16_walk (b : Option Addr) (n c : Nat) (a : Ak) (p : Pl) (w : World) (hn : n ≤ maxLen) (ho : ∃ l, Row adc w w.heap.size b n l ∧ ∀ x ∈ l, AdOk x ∧ I15 x.q) (hk : AkOk a ∧ AkRow w a p ∧ p.n1 ≤ maxLen ∧ p.n2 ≤ maxLen ∧ p.n3 ≤ maxLen) :
    Calls Try.prog 6 #[.slice b n c, .agg (akc a.w p).toArray] w fun e w' => e = .returned (.bool true) ∧ Below w.heap.size w w' := by
  obtain ⟨l, hr, hx⟩ := ho
  have HX := Lib.hid (fun x h => (hx x h).1)
  have HAK := Lib.hid hk.1
  have hl := bel_new (Below.refl w.heap.size w) (.cells (akc a.w p).toArray 31)
  have HQ := Lib.hid (Blk.new w 31 (akc a.w p))
  have HL := Lib.hid hl
  have HR := Lib.hid ((hr.below hl).more hl.size)
  have HAR := Lib.hid (hk.2.1.below hl)
  have HIA := Lib.hid (show (Try.prog.info? 31).map (·.size) = some (akc a.w p).length from infoAkR)
  have HIN := Lib.hid (fun x => (show (Try.prog.info? 38).map (·.size) = some (adc x).length from infoAdR16))
  unfold maxLen at hn
  clear hx hl hr hk
  go_enter Try.func6, Try.ntmps6
  go_upto_region 1 with fail
  generalize (w.alloc (.cells (akc a.w p).toArray 31)) = w1 at *
  go_wp2_with fail
  ((with_reducible refine (alive16_calls w1).mono ?_))
  rintro e w2 ⟨rfl, hb⟩
  have L2 := Lib.hid (HL.out.trans (hb.mono HL.out.size))
  have Q2 := Lib.hid (HQ.out.below hb)
  have R2 := Lib.hid ((HR.out.below hb).more hb.size)
  have K2 := Lib.hid (HAR.out.below hb)
  clear hb HL HQ HR HAR
  have hsm := small16_calls b n c a.w p w2
  unfold Yes15 at hsm
  obtain ⟨sm, hs⟩ : ∃ sm, sml16 n p = sm := ⟨_, rfl⟩
  rw [hs] at hsm
  have HS := Lib.hid hs
  have HSM := Lib.hid hsm
  clear hs hsm
  go_wp2_with (refine step_load (o := ⟨some 13, _, _, _, _, _⟩) rfl rfl rfl Q2.out Try.underlying31 rfl HIA.out ?_)
  ((with_reducible refine HSM.out.mono ?_))
  rintro e w3 ⟨rfl, hb⟩
  have L3 := Lib.hid (L2.out.trans (hb.mono L2.out.size))
  have Q3 := Lib.hid (Q2.out.below hb)
  have R3 := Lib.hid ((R2.out.below hb).more hb.size)
  have K3 := Lib.hid (K2.out.below hb)
  clear hb L2 Q2 R2 K2 HSM
  cases sm with
  | false =>
    go_wp2_with fail
    go_ret
    exact ⟨rfl, L3.out⟩
  | true =>
  have I3 := Lib.hid (K3.out.akin HS.out)
  have hn1 : n ≤ 100 := by have := HS.out; unfold sml16 at this; simp only [Bool.and_eq_true, decide_eq_true_eq] at this; exact this.1
  have HPN := Lib.hid (show p.n1 ≤ 100 ∧ p.n2 ≤ 100 by have := HS.out; unfold sml16 at this; simp only [Bool.and_eq_true, decide_eq_true_eq] at this; exact ⟨this.2.1, this.2.2.1⟩)
  clear hn K3 HS
  clear w2 w1
  have HIP := Lib.hid (fun q => infoAkP16 a.w q)
  go_wp2_with fail
  go_loopw [18] (fun s W => ∃ i : Nat, i ≤ n ∧ s = .int .i64 (i : Int) ∧ Below w3.heap.size w3 W) (fun s W => n - (intOf s).toNat)
  case atStart => exact ⟨0, Nat.zero_le _, rfl, Below.refl _ _⟩
  case round =>
    obtain ⟨i, hi, rfl, hbl⟩ := hrel
    have HBL := Lib.hid hbl
    clear hbl
    by_cases hin : i < n
    · have i1 : (i : Int) < (n : Int) := by omega
      obtain ⟨bb, o, x, rfl, hx, hbb, hc⟩ := range15 R3.out hin
      have HXO := Lib.hid (HX.out x (List.mem_of_getElem? hx))
      have HII := Lib.hid hin
      have HC := Lib.hid (hc wr HBL.out)
      have HIX := Lib.hid (HIN.out x)
      have HIC := Lib.hid (show (Try.prog.info? 40).map (·.size) = some (adc x).length from infoAdC16)
      clear hx hbb hc hin hi
      have hbz := bel_new (Below.refl wr.heap.size wr) (.cells #[.int .i64 0, .int .i64 0, .int .u64 0, .int .i64 0, .int .u32 0, .int .i64 0, .bool false, .int .u64 0, .int .u64 0, .int .u64 0, .int .u64 0, .int .u64 0, .int .u64 0, .int .u64 0, .int .u64 0] 38)
      have BZ := Lib.hid (show Blk (wr.alloc (.cells #[.int .i64 0, .int .i64 0, .int .u64 0, .int .i64 0, .int .u32 0, .int .i64 0, .bool false, .int .u64 0, .int .u64 0, .int .u64 0, .int .u64 0, .int .u64 0, .int .u64 0, .int .u64 0, .int .u64 0] 38)) wr.heap.size 38 zr16 from Blk.new wr _ zr16)
      have HBZ := Lib.hid hbz
      clear hbz
      go_upto_region 8 with (first | (refine step_load_at (o := ⟨some 21, _, _, _, _, _⟩) rfl rfl rfl HC.out Try.underlying38 rfl HIX.out ?_) | ((with_reducible refine step_store (o := ⟨none, _, _, _, _, _⟩) (vs := adc x) (ty := 38) (x := .tmp 6) (y := .tmp 21) ?_ ?_ ?_ ?_ BZ.out HIX.out rfl (adc_one _) ?_); (rfl); (rfl); (rfl); (rfl); intro v1 hb5 hg5 hs5))
      have KX := Lib.hid hb5
      have hb : Below wr.heap.size wr v1 := bel_upd HBZ.out hg5 (Nat.le_refl _) (Nat.le_refl _)
      clear hb5 hg5 hs5 BZ HBZ
      have L1 := Lib.hid (show Below w3.heap.size w3 v1 from HBL.out.trans (hb.mono HBL.out.size))
      have X1 := KX
      clear hb HBL HC KX
      generalize wr.heap.size = qx at *
      have HT1 := Lib.hid (theirs15_calls x)
      unfold Back15 at HT1
      go_upto_region 9 with (first | (refine step_load (o := ⟨some 22, _, _, _, _, _⟩) rfl rfl rfl X1.out Try.underlying38 rfl HIX.out ?_))
      ((with_reducible refine (HT1.out v1).mono ?_))
      rintro e v2 ⟨rfl, hb⟩
      have L2 := Lib.hid (L1.out.trans (hb.mono L1.out.size))
      have X2 := Lib.hid (X1.out.below hb)
      clear hb L1 X1
      have hbz := bel_new (Below.refl v2.heap.size v2) (.cells #[.int .i64 0, .int .i64 0, .int .u64 0, .int .i64 0, .int .u32 0, .int .i64 0, .bool false, .int .u64 0, .int .u64 0, .int .u64 0, .int .u64 0, .int .u64 0, .int .u64 0, .int .u64 0, .int .u64 0] 40)
      have BZ := Lib.hid (show Blk (v2.alloc (.cells #[.int .i64 0, .int .i64 0, .int .u64 0, .int .i64 0, .int .u32 0, .int .i64 0, .bool false, .int .u64 0, .int .u64 0, .int .u64 0, .int .u64 0, .int .u64 0, .int .u64 0, .int .u64 0, .int .u64 0] 40)) v2.heap.size 40 zr16 from Blk.new v2 _ zr16)
      have HBZ := Lib.hid hbz
      clear hbz
      go_upto_region 9 with (((with_reducible refine step_store (o := ⟨none, _, _, _, _, _⟩) (vs := adc x) (ty := 40) (x := .tmp 7) (y := .tmp 23) ?_ ?_ ?_ ?_ BZ.out HIC.out rfl (adc_one _) ?_); (rfl); (rfl); (rfl); (rfl); intro v3 hb5 hg5 hs5))
      have hb : Below v2.heap.size v2 v3 := bel_upd HBZ.out hg5 (Nat.le_refl _) (Nat.le_refl _)
      have Y3 := Lib.hid hb5
      have L3' := Lib.hid (L2.out.trans (hb.mono L2.out.size))
      have X3 := Lib.hid (X2.out.below hb)
      have HXY := Lib.hid (show qx < v2.heap.size ∧ w3.heap.size ≤ v2.heap.size from ⟨X2.out.lt, L2.out.size⟩)
      clear hb hb5 hg5 hs5 BZ HBZ X2 L2
      generalize v2.heap.size = qy at *
      have y6 : v3.cell? ⟨qy, 6, none⟩ = some (.bool x.up) := Y3.out.cell 6
      have f6 := Y3.out.free 6
      go_upto_region 10 with fail
      clear y6 f6
      have Y4 := Lib.hid (show Blk (v3.setCell ⟨qy, 6, none⟩ (.bool false)) qy 40 (adc { x with up := false }) from Y3.out.set 6 _)
      have X4 := Lib.hid (X3.out.other (p := ⟨qy, 6, none⟩) (by have := HXY.out.1; simp only; omega) (.bool false))
      have L4 := Lib.hid (show Below w3.heap.size w3 (v3.setCell ⟨qy, 6, none⟩ (.bool false)) from L3'.out.setCell (p := ⟨qy, 6, none⟩) HXY.out.2 _)
      clear Y3 X3 L3'
      generalize v3.setCell ⟨qy, 6, none⟩ (.bool false) = v4 at *
      have Q4 := Lib.hid (Q3.out.below L4.out)
      have I4 := Lib.hid (I3.out.below L4.out)
      have HT2 := theirs16_calls a p v4 I4.out
      unfold Th16 at HT2
      have HTH := Lib.hid HT2
      clear HT2
      go_upto_region 11 with (first | (refine step_load (o := ⟨some 25, _, _, _, _, _⟩) rfl rfl rfl Q4.out Try.underlying31 rfl HIA.out ?_))
      ((with_reducible refine HTH.out.mono ?_))
      rintro e v5 ⟨A5, c5, rfl, hac, hb⟩
      have L5 := Lib.hid (L4.out.trans (hb.mono L4.out.size))
      have X5 := Lib.hid (X4.out.below hb)
      have Y5 := Lib.hid (Y4.out.below hb)
      have I5 := Lib.hid (Th16.akin I4.out hac hb)
      clear hb hac L4 X4 Y4 Q4 I4 HTH
      have HP5 := Lib.hid (HIP.out (pl16 p A5 p.n3 c5))
      have hbz := bel_new (Below.refl v5.heap.size v5) (.cells #[.int .u64 0, .int .i64 0, .int .i64 0, .int .u32 0, .int .u32 0, .int .u32 0, .slice none 0 0, .slice none 0 0, .slice none 0 0, .int .i64 0] 44)
      have BZ := Lib.hid (show Blk (v5.alloc (.cells #[.int .u64 0, .int .i64 0, .int .i64 0, .int .u32 0, .int .u32 0, .int .u32 0, .slice none 0 0, .slice none 0 0, .slice none 0 0, .int .i64 0] 44)) v5.heap.size 44 zakD16 from Blk.new v5 _ zakD16)
      have HBZ := Lib.hid hbz
      clear hbz
      go_upto_region 11 with (((with_reducible refine step_store (o := ⟨none, _, _, _, _, _⟩) (vs := akc a.w (pl16 p A5 p.n3 c5)) (ty := 44) (x := .tmp 8) (y := .tmp 26) ?_ ?_ ?_ ?_ BZ.out HP5.out rfl (akc_one _ _) ?_); (rfl); (rfl); (rfl); (rfl); intro v6 hb5 hg5 hs5))
      have hb : Below v5.heap.size v5 v6 := bel_upd HBZ.out hg5 (Nat.le_refl _) (Nat.le_refl _)
      have B6 := Lib.hid hb5
      have L6 := Lib.hid (L5.out.trans (hb.mono L5.out.size))
      have X6 := Lib.hid (X5.out.below hb)
      have Y6 := Lib.hid (Y5.out.below hb)
      have LB6 := Lib.hid hb
      have HQB := Lib.hid (show qx < v5.heap.size ∧ qy < v5.heap.size ∧ w3.heap.size ≤ v5.heap.size ∧ v5.heap.size < v6.heap.size from ⟨X5.out.lt, Y5.out.lt, L5.out.size, B6.out.lt⟩)
      clear hb hb5 hg5 hs5 BZ HBZ L5 X5 Y5
      generalize hqb : v5.heap.size = qb at *
      obtain ⟨A1, n1, c1, A2, n2, c2, A3, n3, c3, hop⟩ := p
      unfold pl16 at *
      simp only at HPN I5 B6 HP5
      obtain ⟨⟨kf, kt, kc, km, kg⟩, kq, kup, kfr⟩ := x
      go_frame
      go_cut [] from 27 to 35 (fun W => Below qb v6 W ∧ v6.heap.size ≤ W.heap.size ∧ ∃ (A : Option Addr) (c : Nat), Blk W qb 44 (akc a.w ⟨A, n1 + 1, c, A2, n2, c2, A5, n3, c5, hop⟩) ∧ Row ei W W.heap.size A (n1 + 1) (a.nn ++ [kt]))
      case first =>
        have HNL := Lib.hid (show a.nn.length = n1 from I5.out.nn.1)
        have HFIN := Lib.hid (fun (Wp : World) (A : Option Addr) (c : Nat) (hb : Below v6.heap.size v6 Wp) (ha : AccR ei 1 Wp v6.heap.size 3 A c (a.nn ++ [kt])) => (show Below qb v6 (Wp.setCell ⟨qb, 6, none⟩ (.slice A (n1 + 1) c)) ∧ v6.heap.size ≤ (Wp.setCell ⟨qb, 6, none⟩ (.slice A (n1 + 1) c)).heap.size ∧ ∃ (A' : Option Addr) (c' : Nat), Blk (Wp.setCell ⟨qb, 6, none⟩ (.slice A (n1 + 1) c)) qb 44 (akc a.w ⟨A', n1 + 1, c', A2, n2, c2, A5, n3, c5, hop⟩) ∧ Row ei (Wp.setCell ⟨qb, 6, none⟩ (.slice A (n1 + 1) c)) (Wp.setCell ⟨qb, 6, none⟩ (.slice A (n1 + 1) c)).heap.size A' (n1 + 1) (a.nn ++ [kt]) from
          ⟨(hb.mono (Nat.le_of_lt B6.out.lt)).setCell (p := ⟨qb, 6, none⟩) (Nat.le_refl _) _, Nat.le_trans hb.size (by simp), A, c, (B6.out.below hb).set 6 _, by
            have := AccR.row (accr_setBelow16 ha (p := ⟨qb, 6, none⟩) B6.out.lt (.slice A (n1 + 1) c))
            rwa [List.length_append, HNL.out] at this⟩))
        have HNQ := Lib.hid (show qb ≠ qx by have := HQB.out.1; omega)
        have X := X6
        have HS0 := Lib.hid (show Below v6.heap.size v6 v6.drew from (Below.refl _ _).drew)
        have B0 := Lib.hid B6.out.drew
        have X0 := Lib.hid X.out.drew
        have HRW := Lib.hid (show Row ei v6 v6.heap.size A1 n1 a.nn from ((I5.out.nn.below LB6.out).more (Nat.le_of_lt B6.out.lt)))
        go_wp2_with fail
        refine region_way (fun W => W.cell? ⟨qx, 1, none⟩ = some (.int .i64 kt)) (.step 0 true (.step 3 true (.step 4 true (.step 5 true (.both 1 6 (.both 2 6 (.step 6 false (.step 7 false (.step 8 true (.step 9 false .done)))) (.step 2 false (.step 7 false (.step 8 true (.step 9 false .done))))) (.step 1 false (.step 2 false (.step 7 false (.step 8 true (.step 9 false .done)))))))))) (by kernel_rfl) (by kernel_rfl) (by kernel_rfl) (by kernel_rfl) (fun _ _ _ _ _ h => h) ((X0.out).cell 1) ?_
        repeat
          refine way_pure (v := ?_) rfl (by rfl) (fun W hW => ?_) ?_
          rotate_left
          · have t1 := hW; clear hW
            go_simp
            with_reducible rfl
          simp only [Act.put, List.setIfInBounds_toArray, List.set_cons_zero, List.set_cons_succ]
        generalize v6.drew = u0 at *
        obtain ⟨G1, g1, w1, r1, ha1, hv1, _⟩ := grow16 (c := c1) (ty := 27) ei_length ei_one (by omega) Try.underlying27 infoInt rfl (by omega) HS0.out HRW.out (by have := HPN.out; omega)
        have hu1 := bel_new hv1 (.cells #[.int .i64 kt] 3)
        obtain ⟨G2, g2, w2, r2, ha2, hv2⟩ := more16 (d := 1) (ty := 27) ei_length ei_one (by omega) Try.underlying27 infoInt rfl (by omega) hu1 (AccR.alloc ha1 _) (show a.nn.length = n1 from HNL.out) (show Row ei (w1.alloc (.cells #[.int .i64 kt] 3)) (w1.heap.size + 1) (some ⟨w1.heap.size, 0, none⟩) 1 [kt] from row_one16 (x := kt)) (by have := HPN.out; omega)
        have PR1 := Lib.hid r1
        have PR2 := Lib.hid r2
        have PA2 := Lib.hid ha2
        have PV1 := Lib.hid hv1
        have PV1' := Lib.hid hu1
        have PV2 := Lib.hid hv2
        clear r1 r2 ha1 ha2 hv1 hu1 hv2
        have hu1 := bel_new HS0.out (.cells #[.int .i64 kt] 3)
        obtain ⟨F1, f1, z1, r1, ha1, hv1, hd1⟩ := grow16 (c := c1) (ty := 27) ei_length ei_one (by omega) Try.underlying27 infoInt rfl (by omega) hu1 HRW.out (by have := HPN.out; omega)
        obtain ⟨F2, f2, z2, r2, ha2, hv2⟩ := more16 (d := 1) (ty := 27) ei_length ei_one (by omega) Try.underlying27 infoInt rfl (by omega) hv1 ha1 (show a.nn.length = n1 from HNL.out) ((show Row ei (u0.alloc (.cells #[.int .i64 kt] 3)) (u0.alloc (.cells #[.int .i64 kt] 3)).heap.size (some ⟨u0.heap.size, 0, none⟩) 1 [kt] from (row_one16 (x := kt)).more (by simp)).below hd1) (by have := HPN.out; omega)
        have SR1 := Lib.hid r1
        have SR2 := Lib.hid r2
        have SA2 := Lib.hid ha2
        have SV1 := Lib.hid hv1
        have SV1' := Lib.hid hu1
        have SV2 := Lib.hid hv2
        clear r1 r2 ha1 ha2 hv1 hu1 hv2 hd1
        refine way_both rfl (by rfl) rfl (by rfl) (fun K hK => ?_) (fun K hK => ?_)
        · have c6 : u0.cell? ⟨qb, 6, none⟩ = some (.slice A1 n1 c1) := B0.out.cell 6
          go_simp
          clear c6
          refine hK _ _ (fun W => W.cell? ⟨qx, 1, none⟩ = some (.int .i64 kt)) (fun W h => h) ((X0.out).cell 1) ?_
          clear hK K
          refine way_both rfl (by rfl) rfl (by rfl) (fun K hK => ?_) (fun K hK => ?_)
          · refine op_append rfl rfl rfl PR1.out ?_
            simp only [Act.put, List.setIfInBounds_toArray, List.set_cons_zero, List.set_cons_succ]
            refine hK _ w1 (fun W => W.cell? ⟨qx, 1, none⟩ = some (.int .i64 kt)) (fun W h => h) ((X.out.below PV1.out).cell 1) ?_
            clear hK K
            refine way_make rfl (by rfl) (fun K hK => ?_)
            go_simp
            refine hK _ _ (fun W => W.cell? ⟨qx, 1, none⟩ = some (.int .i64 kt)) (fun W h => h) ((X.out.below PV1'.out).cell 1) ?_
            clear hK K
            refine way_make rfl (by rfl) (fun K hK => ?_)
            refine op_append rfl rfl rfl PR2.out ?_
            simp only [Act.put, List.setIfInBounds_toArray, List.set_cons_zero, List.set_cons_succ]
            refine hK _ w2 (fun W => W.cell? ⟨qx, 1, none⟩ = some (.int .i64 kt)) (fun W h => h) ((X.out.below PV2.out).cell 1) ?_
            clear hK K
            refine way_pure (v := ?_) rfl (by rfl) (fun W hW => ?_) ?_
            rotate_left
            · clear hW
              go_simp
              with_reducible rfl
            simp only [Act.put, List.setIfInBounds_toArray, List.set_cons_zero, List.set_cons_succ]
            refine way_make rfl (by rfl) (fun K hK => ?_)
            have cc6 : w2.cell? ⟨qb, 6, none⟩ = some (.slice A1 n1 c1) := (B6.out.below PV2.out).cell 6
            have ff6 := (B6.out.below PV2.out).free 6
            go_simp
            clear cc6 ff6
            refine hK _ _ (fun W => W.cell? ⟨qx, 1, none⟩ = some (.int .i64 kt)) (fun W h => h) (((X.out.below PV2.out).other (p := ⟨qb, 6, none⟩) (by have := HNQ.out; simp only; omega) _).cell 1) ?_
            clear hK K
            refine way_done ?_
            go_wp2_with fail
            go_meet
            exact HFIN.out w2 G2 g2 PV2.out PA2.out
          · go_simp
            refine hK _ _ (fun W => W.cell? ⟨qx, 1, none⟩ = some (.int .i64 kt)) (fun W h => h) ((X.out.below SV1'.out).cell 1) ?_
            clear hK K
            refine way_make rfl (by rfl) (fun K hK => ?_)
            refine op_append rfl rfl rfl SR1.out ?_
            simp only [Act.put, List.setIfInBounds_toArray, List.set_cons_zero, List.set_cons_succ]
            refine hK _ z1 (fun W => W.cell? ⟨qx, 1, none⟩ = some (.int .i64 kt)) (fun W h => h) ((X.out.below SV1.out).cell 1) ?_
            clear hK K
            refine way_make rfl (by rfl) (fun K hK => ?_)
            refine op_append rfl rfl rfl SR2.out ?_
            simp only [Act.put, List.setIfInBounds_toArray, List.set_cons_zero, List.set_cons_succ]
            refine hK _ z2 (fun W => W.cell? ⟨qx, 1, none⟩ = some (.int .i64 kt)) (fun W h => h) ((X.out.below SV2.out).cell 1) ?_
            clear hK K
            refine way_pure (v := ?_) rfl (by rfl) (fun W hW => ?_) ?_
            rotate_left
            · clear hW
              go_simp
              with_reducible rfl
            simp only [Act.put, List.setIfInBounds_toArray, List.set_cons_zero, List.set_cons_succ]
            refine way_make rfl (by rfl) (fun K hK => ?_)
            have cc6 : z2.cell? ⟨qb, 6, none⟩ = some (.slice A1 n1 c1) := (B6.out.below SV2.out).cell 6
            have ff6 := (B6.out.below SV2.out).free 6
            go_simp
            clear cc6 ff6
            refine hK _ _ (fun W => W.cell? ⟨qx, 1, none⟩ = some (.int .i64 kt)) (fun W h => h) (((X.out.below SV2.out).other (p := ⟨qb, 6, none⟩) (by have := HNQ.out; simp only; omega) _).cell 1) ?_
            clear hK K
            refine way_done ?_
            go_wp2_with fail
            go_meet
            exact HFIN.out z2 F2 f2 SV2.out SA2.out
        · go_simp
          refine hK _ _ (fun W => W.cell? ⟨qx, 1, none⟩ = some (.int .i64 kt)) (fun W h => h) ((X.out.below SV1'.out).cell 1) ?_
          clear hK K
          refine way_make rfl (by rfl) (fun K hK => ?_)
          have c6 : (u0.alloc (.cells #[.int .i64 kt] 3)).cell? ⟨qb, 6, none⟩ = some (.slice A1 n1 c1) := (B6.out.below SV1'.out).cell 6
          go_simp
          clear c6
          refine hK _ _ (fun W => W.cell? ⟨qx, 1, none⟩ = some (.int .i64 kt)) (fun W h => h) ((X.out.below SV1'.out).cell 1) ?_
          clear hK K
          refine way_make rfl (by rfl) (fun K hK => ?_)
          refine op_append rfl rfl rfl SR1.out ?_
          simp only [Act.put, List.setIfInBounds_toArray, List.set_cons_zero, List.set_cons_succ]
          refine hK _ z1 (fun W => W.cell? ⟨qx, 1, none⟩ = some (.int .i64 kt)) (fun W h => h) ((X.out.below SV1.out).cell 1) ?_
          clear hK K
          refine way_make rfl (by rfl) (fun K hK => ?_)
          refine op_append rfl rfl rfl SR2.out ?_
          simp only [Act.put, List.setIfInBounds_toArray, List.set_cons_zero, List.set_cons_succ]
          refine hK _ z2 (fun W => W.cell? ⟨qx, 1, none⟩ = some (.int .i64 kt)) (fun W h => h) ((X.out.below SV2.out).cell 1) ?_
          clear hK K
          refine way_pure (v := ?_) rfl (by rfl) (fun W hW => ?_) ?_
          rotate_left
          · clear hW
            go_simp
            with_reducible rfl
          simp only [Act.put, List.setIfInBounds_toArray, List.set_cons_zero, List.set_cons_succ]
          refine way_make rfl (by rfl) (fun K hK => ?_)
          have cc6 : z2.cell? ⟨qb, 6, none⟩ = some (.slice A1 n1 c1) := (B6.out.below SV2.out).cell 6
          have ff6 := (B6.out.below SV2.out).free 6
          go_simp
          clear cc6 ff6
          refine hK _ _ (fun W => W.cell? ⟨qx, 1, none⟩ = some (.int .i64 kt)) (fun W h => h) (((X.out.below SV2.out).other (p := ⟨qb, 6, none⟩) (by have := HNQ.out; simp only; omega) _).cell 1) ?_
          clear hK K
          refine way_done ?_
          go_wp2_with fail
          go_meet
          exact HFIN.out z2 F2 f2 SV2.out SA2.out
      case rest =>
        obtain ⟨hb, hs, Ab, cb, hk, hrw⟩ := hcut
        generalize wc = x7 at *
        have L7 := Lib.hid (L6.out.trans (hb.mono HQB.out.2.2.1))
        have X7 := Lib.hid (X6.out.same (hb.block _ HQB.out.1))
        have Y7 := Lib.hid (Y6.out.same (hb.block _ HQB.out.2.1))
        have B7 := Lib.hid hk
        have hj := I5.out.keep (LB6.out.trans hb) (Nat.le_trans (Nat.le_of_lt HQB.out.2.2.2) hs)
        have IB7 := Lib.hid (show AkIn x7 x7.heap.size ⟨a.w, a.nn ++ [kt], a.nl, a.ow⟩ ⟨Ab, n1 + 1, cb, A2, n2, c2, A5, n3, c5, hop⟩ from ⟨hrw, hj.nl, hj.ow, by have := HPN.out.1; simp only; omega, hj.b2, hj.b3⟩)
        have HB7 := Lib.hid (show qb < x7.heap.size from hk.lt)
        clear hb hs hk hrw hj L6 X6 Y6 B6 LB6 I5
        have Q7 := Lib.hid (Q3.out.below L7.out)
        have I7 := Lib.hid (I3.out.below L7.out)
        have HT2 := theirs16_calls a ⟨A1, n1, c1, A2, n2, c2, A3, n3, c3, hop⟩ x7 I7.out
        unfold Th16 at HT2
        have HTH := Lib.hid HT2
        clear HT2
        go_upto_region 13 with (first | (refine step_load (o := ⟨some 36, _, _, _, _, _⟩) rfl rfl rfl Q7.out Try.underlying31 rfl HIA.out ?_))
        ((with_reducible refine HTH.out.mono ?_))
        rintro e v7 ⟨A6, c6', rfl, hac, hb⟩
        have L8 := Lib.hid (L7.out.trans (hb.mono L7.out.size))
        have X8 := Lib.hid (X7.out.below hb)
        have Y8 := Lib.hid (Y7.out.below hb)
        have B8 := Lib.hid (B7.out.below hb)
        have I8 := Lib.hid (Th16.akin I7.out hac hb)
        have LB8 := Lib.hid hb
        clear hb hac L7 X7 Y7 B7 Q7 I7 HTH
        unfold pl16 at *
        simp only at I8
        have HP8 := Lib.hid (HIP.out ⟨A1, n1, c1, A2, n2, c2, A6, n3, c6', hop⟩)
        have hbz := bel_new (Below.refl v7.heap.size v7) (.cells #[.int .u64 0, .int .i64 0, .int .i64 0, .int .u32 0, .int .u32 0, .int .u32 0, .slice none 0 0, .slice none 0 0, .slice none 0 0, .int .i64 0] 44)
        have BZ := Lib.hid (show Blk (v7.alloc (.cells #[.int .u64 0, .int .i64 0, .int .i64 0, .int .u32 0, .int .u32 0, .int .u32 0, .slice none 0 0, .slice none 0 0, .slice none 0 0, .int .i64 0] 44)) v7.heap.size 44 zakD16 from Blk.new v7 _ zakD16)
        have HBZ := Lib.hid hbz
        clear hbz
        go_upto_region 13 with (((with_reducible refine step_store (o := ⟨none, _, _, _, _, _⟩) (vs := akc a.w ⟨A1, n1, c1, A2, n2, c2, A6, n3, c6', hop⟩) (ty := 44) (x := .tmp 9) (y := .tmp 37) ?_ ?_ ?_ ?_ BZ.out HP8.out rfl (akc_one _ _) ?_); (rfl); (rfl); (rfl); (rfl); intro v8 hb5 hg5 hs5))
        have hb : Below v7.heap.size v7 v8 := bel_upd HBZ.out hg5 (Nat.le_refl _) (Nat.le_refl _)
        have C9 := Lib.hid hb5
        have L9 := Lib.hid (L8.out.trans (hb.mono L8.out.size))
        have X9 := Lib.hid (X8.out.below hb)
        have Y9 := Lib.hid (Y8.out.below hb)
        have B9 := Lib.hid (B8.out.below hb)
        have LB9 := Lib.hid hb
        have LX9 := Lib.hid (LB8.out.trans (hb.mono LB8.out.size))
        have HQC := Lib.hid (show qx < v7.heap.size ∧ qy < v7.heap.size ∧ qb < v7.heap.size ∧ w3.heap.size ≤ v7.heap.size ∧ v7.heap.size < v8.heap.size ∧ x7.heap.size ≤ v7.heap.size from ⟨X8.out.lt, Y8.out.lt, B8.out.lt, L8.out.size, C9.out.lt, LB8.out.size⟩)
        clear hb hb5 hg5 hs5 BZ HBZ L8 X8 Y8 B8 LB8
        generalize hqc : v7.heap.size = qc at *
        go_frame
        go_cut [] from 38 to 50 (fun W => Below qc v8 W ∧ v8.heap.size ≤ W.heap.size ∧ ∃ (A : Option Addr) (c : Nat), Blk W qc 44 (akc a.w ⟨A1, n1, c1, A, n2 + 1, c, A6, n3, c6', hop⟩) ∧ Row prc W W.heap.size A (n2 + 1) (a.nl ++ [(kf, kt)]))
        case first =>
          have HNL := Lib.hid (show a.nl.length = n2 from I8.out.nl.1)
          have HFIN := Lib.hid (fun (Wp : World) (A : Option Addr) (c : Nat) (hb : Below v8.heap.size v8 Wp) (ha : AccR prc 2 Wp v8.heap.size 56 A c (a.nl ++ [(kf, kt)])) => (show Below qc v8 (Wp.setCell ⟨qc, 7, none⟩ (.slice A (n2 + 1) c)) ∧ v8.heap.size ≤ (Wp.setCell ⟨qc, 7, none⟩ (.slice A (n2 + 1) c)).heap.size ∧ ∃ (A' : Option Addr) (c' : Nat), Blk (Wp.setCell ⟨qc, 7, none⟩ (.slice A (n2 + 1) c)) qc 44 (akc a.w ⟨A1, n1, c1, A', n2 + 1, c', A6, n3, c6', hop⟩) ∧ Row prc (Wp.setCell ⟨qc, 7, none⟩ (.slice A (n2 + 1) c)) (Wp.setCell ⟨qc, 7, none⟩ (.slice A (n2 + 1) c)).heap.size A' (n2 + 1) (a.nl ++ [(kf, kt)]) from
            ⟨(hb.mono (Nat.le_of_lt C9.out.lt)).setCell (p := ⟨qc, 7, none⟩) (Nat.le_refl _) _, Nat.le_trans hb.size (by simp), A, c, (C9.out.below hb).set 7 _, by
              have := AccR.row (accr_setBelow16 ha (p := ⟨qc, 7, none⟩) C9.out.lt (.slice A (n2 + 1) c))
              rwa [List.length_append, HNL.out] at this⟩))
          have HNQ := Lib.hid (show qc ≠ qx by have := HQC.out.1; omega)
          have X := X9
          have HS0 := Lib.hid (show Below v8.heap.size v8 v8.drew from (Below.refl _ _).drew)
          have B0 := Lib.hid C9.out.drew
          have X0 := Lib.hid X.out.drew
          have HRW := Lib.hid (show Row prc v8 v8.heap.size A2 n2 a.nl from ((I8.out.nl.below LB9.out).more (Nat.le_of_lt C9.out.lt)))
          go_wp2_with fail
          refine region_way (fun W => W.cell? ⟨qx, 0, none⟩ = some (.int .i64 kf) ∧ W.cell? ⟨qx, 1, none⟩ = some (.int .i64 kt)) (.step 0 true (.step 3 true (.step 4 true (.step 5 true (.step 6 true (.step 7 true (.step 8 true (.step 9 true (.both 1 10 (.both 2 10 (.step 10 false (.step 11 false (.step 12 true (.step 13 false .done)))) (.step 2 false (.step 11 false (.step 12 true (.step 13 false .done))))) (.step 1 false (.step 2 false (.step 11 false (.step 12 true (.step 13 false .done)))))))))))))) (by kernel_rfl) (by kernel_rfl) (by kernel_rfl) (by kernel_rfl) (fun _ _ _ _ _ h => h) (⟨(X0.out).cell 0, (X0.out).cell 1⟩) ?_
          repeat
            refine way_pure (v := ?_) rfl (by rfl) (fun W hW => ?_) ?_
            rotate_left
            · obtain ⟨t0, t1⟩ := hW
              go_simp
              with_reducible rfl
            simp only [Act.put, List.setIfInBounds_toArray, List.set_cons_zero, List.set_cons_succ]
          generalize v8.drew = u0 at *
          obtain ⟨G1, g1, w1, r1, ha1, hv1, _⟩ := grow16 (c := c2) (ty := 28) prc_length prc_one (by omega) Try.underlying28 infoPrA16 rfl (by omega) HS0.out HRW.out (by have := HPN.out; omega)
          have hu1 := bel_new hv1 (.cells #[.int .i64 kf, .int .i64 kt] 56)
          obtain ⟨G2, g2, w2, r2, ha2, hv2⟩ := more16 (d := 1) (ty := 28) prc_length prc_one (by omega) Try.underlying28 infoPrA16 rfl (by omega) hu1 (AccR.alloc ha1 _) (show a.nl.length = n2 from HNL.out) (show Row prc (w1.alloc (.cells #[.int .i64 kf, .int .i64 kt] 56)) (w1.heap.size + 1) (some ⟨w1.heap.size, 0, none⟩) 1 [(kf, kt)] from row_one16 (x := (kf, kt))) (by have := HPN.out; omega)
          have PR1 := Lib.hid r1
          have PR2 := Lib.hid r2
          have PA2 := Lib.hid ha2
          have PV1 := Lib.hid hv1
          have PV1' := Lib.hid hu1
          have PV2 := Lib.hid hv2
          clear r1 r2 ha1 ha2 hv1 hu1 hv2
          have hu1 := bel_new HS0.out (.cells #[.int .i64 kf, .int .i64 kt] 56)
          obtain ⟨F1, f1, z1, r1, ha1, hv1, hd1⟩ := grow16 (c := c2) (ty := 28) prc_length prc_one (by omega) Try.underlying28 infoPrA16 rfl (by omega) hu1 HRW.out (by have := HPN.out; omega)
          obtain ⟨F2, f2, z2, r2, ha2, hv2⟩ := more16 (d := 1) (ty := 28) prc_length prc_one (by omega) Try.underlying28 infoPrA16 rfl (by omega) hv1 ha1 (show a.nl.length = n2 from HNL.out) ((show Row prc (u0.alloc (.cells #[.int .i64 kf, .int .i64 kt] 56)) (u0.alloc (.cells #[.int .i64 kf, .int .i64 kt] 56)).heap.size (some ⟨u0.heap.size, 0, none⟩) 1 [(kf, kt)] from (row_one16 (x := (kf, kt))).more (by simp)).below hd1) (by have := HPN.out; omega)
          have SR1 := Lib.hid r1
          have SR2 := Lib.hid r2
          have SA2 := Lib.hid ha2
          have SV1 := Lib.hid hv1
          have SV1' := Lib.hid hu1
          have SV2 := Lib.hid hv2
          clear r1 r2 ha1 ha2 hv1 hu1 hv2 hd1
          refine way_both rfl (by rfl) rfl (by rfl) (fun K hK => ?_) (fun K hK => ?_)
          · have c6 : u0.cell? ⟨qc, 7, none⟩ = some (.slice A2 n2 c2) := B0.out.cell 7
            go_simp
            clear c6
            refine hK _ _ (fun W => W.cell? ⟨qx, 0, none⟩ = some (.int .i64 kf) ∧ W.cell? ⟨qx, 1, none⟩ = some (.int .i64 kt)) (fun W h => h) (⟨(X0.out).cell 0, (X0.out).cell 1⟩) ?_
            clear hK K
            refine way_both rfl (by rfl) rfl (by rfl) (fun K hK => ?_) (fun K hK => ?_)
            · refine op_append rfl rfl rfl PR1.out ?_
              simp only [Act.put, List.setIfInBounds_toArray, List.set_cons_zero, List.set_cons_succ]
              refine hK _ w1 (fun W => W.cell? ⟨qx, 0, none⟩ = some (.int .i64 kf) ∧ W.cell? ⟨qx, 1, none⟩ = some (.int .i64 kt)) (fun W h => h) (⟨(X.out.below PV1.out).cell 0, (X.out.below PV1.out).cell 1⟩) ?_
              clear hK K
              refine way_make rfl (by rfl) (fun K hK => ?_)
              go_simp
              refine hK _ _ (fun W => W.cell? ⟨qx, 0, none⟩ = some (.int .i64 kf) ∧ W.cell? ⟨qx, 1, none⟩ = some (.int .i64 kt)) (fun W h => h) (⟨(X.out.below PV1'.out).cell 0, (X.out.below PV1'.out).cell 1⟩) ?_
              clear hK K
              refine way_make rfl (by rfl) (fun K hK => ?_)
              refine op_append rfl rfl rfl PR2.out ?_
              simp only [Act.put, List.setIfInBounds_toArray, List.set_cons_zero, List.set_cons_succ]
              refine hK _ w2 (fun W => W.cell? ⟨qx, 0, none⟩ = some (.int .i64 kf) ∧ W.cell? ⟨qx, 1, none⟩ = some (.int .i64 kt)) (fun W h => h) (⟨(X.out.below PV2.out).cell 0, (X.out.below PV2.out).cell 1⟩) ?_
              clear hK K
              refine way_pure (v := ?_) rfl (by rfl) (fun W hW => ?_) ?_
              rotate_left
              · clear hW
                go_simp
                with_reducible rfl
              simp only [Act.put, List.setIfInBounds_toArray, List.set_cons_zero, List.set_cons_succ]
              refine way_make rfl (by rfl) (fun K hK => ?_)
              have cc6 : w2.cell? ⟨qc, 7, none⟩ = some (.slice A2 n2 c2) := (C9.out.below PV2.out).cell 7
              have ff6 := (C9.out.below PV2.out).free 7
              go_simp
              clear cc6 ff6
              refine hK _ _ (fun W => W.cell? ⟨qx, 0, none⟩ = some (.int .i64 kf) ∧ W.cell? ⟨qx, 1, none⟩ = some (.int .i64 kt)) (fun W h => h) (⟨((X.out.below PV2.out).other (p := ⟨qc, 7, none⟩) (by have := HNQ.out; simp only; omega) _).cell 0, ((X.out.below PV2.out).other (p := ⟨qc, 7, none⟩) (by have := HNQ.out; simp only; omega) _).cell 1⟩) ?_
              clear hK K
              refine way_done ?_
              go_wp2_with fail
              go_meet
              exact HFIN.out w2 G2 g2 PV2.out PA2.out
            · go_simp
              refine hK _ _ (fun W => W.cell? ⟨qx, 0, none⟩ = some (.int .i64 kf) ∧ W.cell? ⟨qx, 1, none⟩ = some (.int .i64 kt)) (fun W h => h) (⟨(X.out.below SV1'.out).cell 0, (X.out.below SV1'.out).cell 1⟩) ?_
              clear hK K
              refine way_make rfl (by rfl) (fun K hK => ?_)
              refine op_append rfl rfl rfl SR1.out ?_
              simp only [Act.put, List.setIfInBounds_toArray, List.set_cons_zero, List.set_cons_succ]
              refine hK _ z1 (fun W => W.cell? ⟨qx, 0, none⟩ = some (.int .i64 kf) ∧ W.cell? ⟨qx, 1, none⟩ = some (.int .i64 kt)) (fun W h => h) (⟨(X.out.below SV1.out).cell 0, (X.out.below SV1.out).cell 1⟩) ?_
              clear hK K
              refine way_make rfl (by rfl) (fun K hK => ?_)
              refine op_append rfl rfl rfl SR2.out ?_
              simp only [Act.put, List.setIfInBounds_toArray, List.set_cons_zero, List.set_cons_succ]
              refine hK _ z2 (fun W => W.cell? ⟨qx, 0, none⟩ = some (.int .i64 kf) ∧ W.cell? ⟨qx, 1, none⟩ = some (.int .i64 kt)) (fun W h => h) (⟨(X.out.below SV2.out).cell 0, (X.out.below SV2.out).cell 1⟩) ?_
              clear hK K
              refine way_pure (v := ?_) rfl (by rfl) (fun W hW => ?_) ?_
              rotate_left
              · clear hW
                go_simp
                with_reducible rfl
              simp only [Act.put, List.setIfInBounds_toArray, List.set_cons_zero, List.set_cons_succ]
              refine way_make rfl (by rfl) (fun K hK => ?_)
              have cc6 : z2.cell? ⟨qc, 7, none⟩ = some (.slice A2 n2 c2) := (C9.out.below SV2.out).cell 7
              have ff6 := (C9.out.below SV2.out).free 7
              go_simp
              clear cc6 ff6
              refine hK _ _ (fun W => W.cell? ⟨qx, 0, none⟩ = some (.int .i64 kf) ∧ W.cell? ⟨qx, 1, none⟩ = some (.int .i64 kt)) (fun W h => h) (⟨((X.out.below SV2.out).other (p := ⟨qc, 7, none⟩) (by have := HNQ.out; simp only; omega) _).cell 0, ((X.out.below SV2.out).other (p := ⟨qc, 7, none⟩) (by have := HNQ.out; simp only; omega) _).cell 1⟩) ?_
              clear hK K
              refine way_done ?_
              go_wp2_with fail
              go_meet
              exact HFIN.out z2 F2 f2 SV2.out SA2.out
          · go_simp
            refine hK _ _ (fun W => W.cell? ⟨qx, 0, none⟩ = some (.int .i64 kf) ∧ W.cell? ⟨qx, 1, none⟩ = some (.int .i64 kt)) (fun W h => h) (⟨(X.out.below SV1'.out).cell 0, (X.out.below SV1'.out).cell 1⟩) ?_
            clear hK K
            refine way_make rfl (by rfl) (fun K hK => ?_)
            have c6 : (u0.alloc (.cells #[.int .i64 kf, .int .i64 kt] 56)).cell? ⟨qc, 7, none⟩ = some (.slice A2 n2 c2) := (C9.out.below SV1'.out).cell 7
            go_simp
            clear c6
            refine hK _ _ (fun W => W.cell? ⟨qx, 0, none⟩ = some (.int .i64 kf) ∧ W.cell? ⟨qx, 1, none⟩ = some (.int .i64 kt)) (fun W h => h) (⟨(X.out.below SV1'.out).cell 0, (X.out.below SV1'.out).cell 1⟩) ?_
            clear hK K
            refine way_make rfl (by rfl) (fun K hK => ?_)
            refine op_append rfl rfl rfl SR1.out ?_
            simp only [Act.put, List.setIfInBounds_toArray, List.set_cons_zero, List.set_cons_succ]
            refine hK _ z1 (fun W => W.cell? ⟨qx, 0, none⟩ = some (.int .i64 kf) ∧ W.cell? ⟨qx, 1, none⟩ = some (.int .i64 kt)) (fun W h => h) (⟨(X.out.below SV1.out).cell 0, (X.out.below SV1.out).cell 1⟩) ?_
            clear hK K
            refine way_make rfl (by rfl) (fun K hK => ?_)
            refine op_append rfl rfl rfl SR2.out ?_
            simp only [Act.put, List.setIfInBounds_toArray, List.set_cons_zero, List.set_cons_succ]
            refine hK _ z2 (fun W => W.cell? ⟨qx, 0, none⟩ = some (.int .i64 kf) ∧ W.cell? ⟨qx, 1, none⟩ = some (.int .i64 kt)) (fun W h => h) (⟨(X.out.below SV2.out).cell 0, (X.out.below SV2.out).cell 1⟩) ?_
            clear hK K
            refine way_pure (v := ?_) rfl (by rfl) (fun W hW => ?_) ?_
            rotate_left
            · clear hW
              go_simp
              with_reducible rfl
            simp only [Act.put, List.setIfInBounds_toArray, List.set_cons_zero, List.set_cons_succ]
            refine way_make rfl (by rfl) (fun K hK => ?_)
            have cc6 : z2.cell? ⟨qc, 7, none⟩ = some (.slice A2 n2 c2) := (C9.out.below SV2.out).cell 7
            have ff6 := (C9.out.below SV2.out).free 7
            go_simp
            clear cc6 ff6
            refine hK _ _ (fun W => W.cell? ⟨qx, 0, none⟩ = some (.int .i64 kf) ∧ W.cell? ⟨qx, 1, none⟩ = some (.int .i64 kt)) (fun W h => h) (⟨((X.out.below SV2.out).other (p := ⟨qc, 7, none⟩) (by have := HNQ.out; simp only; omega) _).cell 0, ((X.out.below SV2.out).other (p := ⟨qc, 7, none⟩) (by have := HNQ.out; simp only; omega) _).cell 1⟩) ?_
            clear hK K
            refine way_done ?_
            go_wp2_with fail
            go_meet
            exact HFIN.out z2 F2 f2 SV2.out SA2.out
        case rest =>
          obtain ⟨hb, hs, Ac, cc, hk, hrw⟩ := hcut
          generalize wc = x8 at *
          have L10 := Lib.hid (L9.out.trans (hb.mono HQC.out.2.2.2.1))
          have X10 := Lib.hid (X9.out.same (hb.block _ HQC.out.1))
          have Y10 := Lib.hid (Y9.out.same (hb.block _ HQC.out.2.1))
          have B10 := Lib.hid (B9.out.same (hb.block _ HQC.out.2.2.1))
          have C10 := Lib.hid hk
          have hj := I8.out.keep (LB9.out.trans hb) (Nat.le_trans (Nat.le_of_lt HQC.out.2.2.2.2.1) hs)
          have IC10 := Lib.hid (show AkIn x8 x8.heap.size ⟨a.w, a.nn, a.nl ++ [(kf, kt)], a.ow⟩ ⟨A1, n1, c1, Ac, n2 + 1, cc, A6, n3, c6', hop⟩ from ⟨hj.nn, hrw, hj.ow, hj.b1, by have := HPN.out.2; simp only; omega, hj.b3⟩)
          have IB10 := Lib.hid (IB7.out.keep (LX9.out.trans (hb.mono HQC.out.2.2.2.2.2)) (Nat.le_trans HQC.out.2.2.2.2.2 (Nat.le_trans (Nat.le_of_lt HQC.out.2.2.2.2.1) hs)))
          have Q10 := Lib.hid (Q3.out.below L10.out)
          have I10 := Lib.hid (I3.out.below L10.out)
          have LW := Lib.hid (L3.out.trans (L10.out.mono L3.out.size))
          clear hb hs hk hrw hj L9 X9 Y9 B9 C9 LB9 LX9 I8 IB7 HP8 HP5
          have XB := Lib.hid (fun W (hW : Below x8.heap.size x8 W) => X10.out.below hW)
          have YB := Lib.hid (fun W (hW : Below x8.heap.size x8 W) => Y10.out.below hW)
          have BB := Lib.hid (fun W (hW : Below x8.heap.size x8 W) => B10.out.below hW)
          have CB := Lib.hid (fun W (hW : Below x8.heap.size x8 W) => C10.out.below hW)
          have QB := Lib.hid (fun W (hW : Below x8.heap.size x8 W) => Q10.out.below hW)
          have HT2 := Lib.hid (fun W (hW : Below x8.heap.size x8 W) => theirs16_calls a ⟨A1, n1, c1, A2, n2, c2, A3, n3, c3, hop⟩ W (I10.out.below hW))
          unfold Th16 at HT2
          have HOD : AdOk ⟨⟨kf, kt, kc, km, kg⟩, kq, false, kfr⟩ := ⟨HXO.out.len, HXO.out.num, HXO.out.c0, HXO.out.c1, HXO.out.g0, HXO.out.g1⟩
          have f1 := fun W (q : Pl) (hq : AkIn W W.heap.size a q) => fits16c_calls a HAK.out q _ HOD W hq
          rw [fit16_down a ⟨⟨kf, kt, kc, km, kg⟩, kq, false, kfr⟩ rfl] at f1
          have f2 := fun W (hW : Below x8.heap.size x8 W) => (show Calls Try.prog 10 #[.agg (adc ⟨⟨kf, kt, kc, km, kg⟩, kq, kup, kfr⟩).toArray, .agg (akc a.w ⟨Ab, n1 + 1, cb, A2, n2, c2, A5, n3, c5, hop⟩).toArray] W (Yes15 (fit16 ⟨a.w, a.nn ++ [kt], a.nl, a.ow⟩ ⟨⟨kf, kt, kc, km, kg⟩, kq, kup, kfr⟩) W) from fits16c_calls ⟨a.w, a.nn ++ [kt], a.nl, a.ow⟩ ⟨HAK.out.wn, HAK.out.ow⟩ _ _ HXO.out W (IB10.out.below hW))
          rw [fit16_exc (a := ⟨a.w, a.nn ++ [kt], a.nl, a.ow⟩) (x := ⟨⟨kf, kt, kc, km, kg⟩, kq, kup, kfr⟩) (exc16_node a ⟨kf, kt, kc, km, kg⟩)] at f2
          have f3 := fun W (hW : Below x8.heap.size x8 W) => (show Calls Try.prog 10 #[.agg (adc ⟨⟨kf, kt, kc, km, kg⟩, kq, kup, kfr⟩).toArray, .agg (akc a.w ⟨A1, n1, c1, Ac, n2 + 1, cc, A6, n3, c6', hop⟩).toArray] W (Yes15 (fit16 ⟨a.w, a.nn, a.nl ++ [(kf, kt)], a.ow⟩ ⟨⟨kf, kt, kc, km, kg⟩, kq, kup, kfr⟩) W) from fits16c_calls ⟨a.w, a.nn, a.nl ++ [(kf, kt)], a.ow⟩ ⟨HAK.out.wn, HAK.out.ow⟩ _ _ HXO.out W (IC10.out.below hW))
          rw [fit16_exc (a := ⟨a.w, a.nn, a.nl ++ [(kf, kt)], a.ow⟩) (x := ⟨⟨kf, kt, kc, km, kg⟩, kq, kup, kfr⟩) (exc16_link a ⟨kf, kt, kc, km, kg⟩)] at f3
          unfold Yes15 at f1 f2 f3
          have HF1 := Lib.hid f1
          have HF2 := Lib.hid f2
          have HF3 := Lib.hid f3
          have HIB := Lib.hid (HIP.out ⟨Ab, n1 + 1, cb, A2, n2, c2, A5, n3, c5, hop⟩)
          have HICC := Lib.hid (HIP.out ⟨A1, n1, c1, Ac, n2 + 1, cc, A6, n3, c6', hop⟩)
          have HIY := Lib.hid (show (Try.prog.info? 40).map (·.size) = some (adc ⟨⟨kf, kt, kc, km, kg⟩, kq, false, kfr⟩).length from infoAdC16)
          clear f1 f2 f3 HOD
          go_wp2_with fail
          refine region_seq (fun W => Below x8.heap.size x8 W) [(0, true), (1, true), (2, false), (3, false), (4, true), (5, true), (7, true), (6, false), (8, false), (9, true), (10, true), (11, true), (13, true), (12, false), (14, false), (15, true)] (by kernel_rfl) (by kernel_rfl) (by kernel_rfl) (by kernel_rfl) (fun _ _ _ _ _ h => h) (Below.refl _ _).drew ?_
          repeat first
            | refine seq_load8 (x := .tmp 7) rfl (by rfl) rfl rfl YB.out Try.underlying40 rfl HIY.out ?_
              simp only [Act.put, List.setIfInBounds_toArray, List.set_cons_zero, List.set_cons_succ]
            | refine seq_load8 (x := .tmp 3) rfl (by rfl) rfl rfl QB.out Try.underlying31 rfl HIA.out ?_
              simp only [Act.put, List.setIfInBounds_toArray, List.set_cons_zero, List.set_cons_succ]
            | refine seq_load8 (x := .tmp 6) rfl (by rfl) rfl rfl XB.out Try.underlying38 rfl HIX.out ?_
              simp only [Act.put, List.setIfInBounds_toArray, List.set_cons_zero, List.set_cons_succ]
            | refine seq_load8 (x := .tmp 8) rfl (by rfl) rfl rfl BB.out Try.underlying44 rfl HIB.out ?_
              simp only [Act.put, List.setIfInBounds_toArray, List.set_cons_zero, List.set_cons_succ]
            | refine seq_load8 (x := .tmp 9) rfl (by rfl) rfl rfl CB.out Try.underlying44 rfl HICC.out ?_
              simp only [Act.put, List.setIfInBounds_toArray, List.set_cons_zero, List.set_cons_succ]
            | refine seq_pure (v := ?_) rfl (by rfl) (fun W hW => ?_) ?_
              rotate_left
              · clear hW
                go_simp
                with_reducible rfl
              simp only [Act.put, List.setIfInBounds_toArray, List.set_cons_zero, List.set_cons_succ]
          refine seq_make rfl (by rfl) (fun K hK => ?_)
          go_simp
          ((with_reducible refine (HT2.out x8.drew (Below.refl _ _).drew).mono ?_))
          rintro e y1 ⟨A9, c9, rfl, hac, hb⟩
          have SB := Lib.hid (show Below x8.heap.size x8 y1 from below_of_drew hb)
          have I9 := Lib.hid (HF1.out y1 _ (Th16.akin (I10.out.below (Below.refl _ _).drew) hac hb))
          clear hac
          clear hb
          go_simp
          refine hK _ y1 (fun W => Below x8.heap.size x8 W) (fun W h => h) SB.out ?_
          clear hK K
          refine seq_make rfl (by rfl) (fun K hK => ?_)
          go_simp
          ((with_reducible refine (I9.out).mono ?_))
          rintro e y2 ⟨rfl, hb⟩
          have SB := Lib.hid (show Below x8.heap.size x8 y2 from SB.out.trans (hb.mono SB.out.size))

          clear hb
          go_simp
          refine hK _ y2 (fun W => Below x8.heap.size x8 W) (fun W h => h) SB.out ?_
          clear hK K
          repeat first
            | refine seq_load8 (x := .tmp 7) rfl (by rfl) rfl rfl YB.out Try.underlying40 rfl HIY.out ?_
              simp only [Act.put, List.setIfInBounds_toArray, List.set_cons_zero, List.set_cons_succ]
            | refine seq_load8 (x := .tmp 3) rfl (by rfl) rfl rfl QB.out Try.underlying31 rfl HIA.out ?_
              simp only [Act.put, List.setIfInBounds_toArray, List.set_cons_zero, List.set_cons_succ]
            | refine seq_load8 (x := .tmp 6) rfl (by rfl) rfl rfl XB.out Try.underlying38 rfl HIX.out ?_
              simp only [Act.put, List.setIfInBounds_toArray, List.set_cons_zero, List.set_cons_succ]
            | refine seq_load8 (x := .tmp 8) rfl (by rfl) rfl rfl BB.out Try.underlying44 rfl HIB.out ?_
              simp only [Act.put, List.setIfInBounds_toArray, List.set_cons_zero, List.set_cons_succ]
            | refine seq_load8 (x := .tmp 9) rfl (by rfl) rfl rfl CB.out Try.underlying44 rfl HICC.out ?_
              simp only [Act.put, List.setIfInBounds_toArray, List.set_cons_zero, List.set_cons_succ]
            | refine seq_pure (v := ?_) rfl (by rfl) (fun W hW => ?_) ?_
              rotate_left
              · clear hW
                go_simp
                with_reducible rfl
              simp only [Act.put, List.setIfInBounds_toArray, List.set_cons_zero, List.set_cons_succ]
          refine seq_make rfl (by rfl) (fun K hK => ?_)
          go_simp
          ((with_reducible refine (HT1.out y2).mono ?_))
          rintro e y3 ⟨rfl, hb⟩
          have SB := Lib.hid (show Below x8.heap.size x8 y3 from SB.out.trans (hb.mono SB.out.size))

          clear hb
          go_simp
          refine hK _ y3 (fun W => Below x8.heap.size x8 W) (fun W h => h) SB.out ?_
          clear hK K
          refine seq_make rfl (by rfl) (fun K hK => ?_)
          go_simp
          ((with_reducible refine (HF2.out y3 SB.out).mono ?_))
          rintro e y4 ⟨rfl, hb⟩
          have SB := Lib.hid (show Below x8.heap.size x8 y4 from SB.out.trans (hb.mono SB.out.size))

          clear hb
          go_simp
          refine hK _ y4 (fun W => Below x8.heap.size x8 W) (fun W h => h) SB.out ?_
          clear hK K
          repeat first
            | refine seq_load8 (x := .tmp 7) rfl (by rfl) rfl rfl YB.out Try.underlying40 rfl HIY.out ?_
              simp only [Act.put, List.setIfInBounds_toArray, List.set_cons_zero, List.set_cons_succ]
            | refine seq_load8 (x := .tmp 3) rfl (by rfl) rfl rfl QB.out Try.underlying31 rfl HIA.out ?_
              simp only [Act.put, List.setIfInBounds_toArray, List.set_cons_zero, List.set_cons_succ]
            | refine seq_load8 (x := .tmp 6) rfl (by rfl) rfl rfl XB.out Try.underlying38 rfl HIX.out ?_
              simp only [Act.put, List.setIfInBounds_toArray, List.set_cons_zero, List.set_cons_succ]
            | refine seq_load8 (x := .tmp 8) rfl (by rfl) rfl rfl BB.out Try.underlying44 rfl HIB.out ?_
              simp only [Act.put, List.setIfInBounds_toArray, List.set_cons_zero, List.set_cons_succ]
            | refine seq_load8 (x := .tmp 9) rfl (by rfl) rfl rfl CB.out Try.underlying44 rfl HICC.out ?_
              simp only [Act.put, List.setIfInBounds_toArray, List.set_cons_zero, List.set_cons_succ]
            | refine seq_pure (v := ?_) rfl (by rfl) (fun W hW => ?_) ?_
              rotate_left
              · clear hW
                go_simp
                with_reducible rfl
              simp only [Act.put, List.setIfInBounds_toArray, List.set_cons_zero, List.set_cons_succ]
          refine seq_make rfl (by rfl) (fun K hK => ?_)
          go_simp
          ((with_reducible refine (HT1.out y4).mono ?_))
          rintro e y5 ⟨rfl, hb⟩
          have SB := Lib.hid (show Below x8.heap.size x8 y5 from SB.out.trans (hb.mono SB.out.size))

          clear hb
          go_simp
          refine hK _ y5 (fun W => Below x8.heap.size x8 W) (fun W h => h) SB.out ?_
          clear hK K
          refine seq_make rfl (by rfl) (fun K hK => ?_)
          go_simp
          ((with_reducible refine (HF3.out y5 SB.out).mono ?_))
          rintro e y6 ⟨rfl, hb⟩
          have SB := Lib.hid (show Below x8.heap.size x8 y6 from SB.out.trans (hb.mono SB.out.size))

          clear hb
          go_simp
          refine hK _ y6 (fun W => Below x8.heap.size x8 W) (fun W h => h) SB.out ?_
          clear hK K
          repeat first
            | refine seq_pure (v := ?_) rfl (by rfl) (fun W hW => ?_) ?_
              rotate_left
              · clear hW
                go_simp
                with_reducible rfl
              simp only [Act.put, List.setIfInBounds_toArray, List.set_cons_zero, List.set_cons_succ]
          refine seq_done ?_
          have L11 := Lib.hid (L10.out.trans (SB.out.mono L10.out.size))
          clear SB I9 L10 X10 Y10 B10 C10 Q10 I10 IB10 IC10 XB YB BB CB QB HF1 HF2 HF3 HT1 HT2
          go_wp2_with fail
          go_roundw
          case rel => exact ⟨i + 1, HII.out, by first | rfl | (simp; omega), L11.out⟩
          case measure => have := HII.out; simp [intOf]; omega
    · obtain rfl : i = n := by omega
      have i1 : ¬ (i : Int) < (i : Int) := by omega
      have L6 := Lib.hid (L3.out.trans (HBL.out.mono L3.out.size))
      clear hin hi
      go_wp2_with fail
      go_ret
      exact ⟨rfl, L6.out⟩
end Go.Proofs.Ytmffmoflelnmoaa
