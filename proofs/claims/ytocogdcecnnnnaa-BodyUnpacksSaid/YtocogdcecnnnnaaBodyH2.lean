/-
  Contract of the document's own Unpack for layer 7, and what Unpack answers in one form. Condition: the object's body reads as bytes, at most 6000.
-/
import Derived.Test.YtocogdcecnnnnaaBodyG2
import Derived.Test.YtocogdcecnnnnaaBodyZ
namespace Go.Proofs.Ytocogdcecnnnnaa
open Go.RowKit

/-- What Unpack answers, in one form. -/
def RUnpackPost (w : World) (o : Int × Int × List UInt8) (e : Ending) (w' : World) : Prop :=
  ∃ (y : It) (er : Int), e = .returned (.tuple #[.agg y.cells.toArray, .int .i64 er]) ∧ Row ei w' w'.heap.size y.la y.ln y.l ∧ y.ln ≤ maxLen ∧ Below w.heap.size w w' ∧ ((er = 0 ∧ unpack o = some y.val) ∨ (er = 5 ∧ unpack o = none ∧ y.val = .blank 0))
theorem UnpackPost.told {w w' : World} {o : Int × Int × List UInt8} {e : Ending} (h : UnpackPost w o e w') : RUnpackPost w o e w' := by
  obtain ⟨hb, ⟨hn, he⟩ | ⟨y, hp, hl, he, ha⟩⟩ := h
  · exact ⟨⟨0, 0, 0, 0, 0, none, 0, 0, [], Wnt.zero⟩, 5, he, Row.nil, Nat.zero_le _, hb, .inr ⟨rfl, hn, rfl⟩⟩
  · have hc := AccR.cap ha
    exact ⟨y, 0, he, by rw [hl]; exact AccR.row ha, by omega, hb, .inl ⟨rfl, hp⟩⟩

/-- What is known once it is decided whether the guess is right. -/
def CutG (w : World) (o : Int × Int × List UInt8) (q : Nat) (y : It) (v : Value) (W : World) : Prop :=
  (Blk W (w.heap.size + 1) 28 [.int .i64 0, .int .i64 0, .int .i64 0, .int .i64 0, .int .u64 0, .slice none 0 0, .int .u64 0, .int .i64 0, .int .i64 0, .int .u32 0, .int .u32 0, .int .u32 0] ∧ Blk W q 28 y.cells ∧ AccI W w.heap.size y.la y.lc y.l ∧ Below w.heap.size w W) ∧ ∃ u, v = .bool u ∧ ((u = true ∧ unpack o = none) ∨ (u = false ∧ unpack o = some y.val))

set_option maxRecDepth 100000 in
set_option maxHeartbeats 6400000 in
theorem runpack_calls (ocl oty : Int) (oa : Option Addr) (on oc : Nat) (ol : List UInt8) (w : World) (h : Inb w oa on oc ol) (hn : on ≤ 6000) :
    Calls Try.prog 16 #[.agg #[.int .i64 ocl, .int .i64 oty, .slice oa on oc]] w (RUnpackPost w (ocl, oty, ol)) := by
  have hn1 := Blk.new (w.alloc (.cells ([.int .i64 ocl, .int .i64 oty, .slice oa on oc] : List Value).toArray 38)) 28 [.int .i64 0, .int .i64 0, .int .i64 0, .int .i64 0, .int .u64 0, .slice none 0 0, .int .u64 0, .int .i64 0, .int .i64 0, .int .u32 0, .int .u32 0, .int .u32 0]
  simp only [World.size_alloc] at hn1
  have H0 := Lib.hid ((Blk.new w 38 [.int .i64 ocl, .int .i64 oty, .slice oa on oc]).alloc (.cells ([.int .i64 0, .int .i64 0, .int .i64 0, .int .i64 0, .int .u64 0, .slice none 0 0, .int .u64 0, .int .i64 0, .int .i64 0, .int .u32 0, .int .u32 0, .int .u32 0] : List Value).toArray 28))
  have H1 := Lib.hid hn1
  have HB := Lib.hid (bel_new (bel_new (Below.refl w.heap.size w) (.cells ([.int .i64 ocl, .int .i64 oty, .slice oa on oc] : List Value).toArray 38)) (.cells ([.int .i64 0, .int .i64 0, .int .i64 0, .int .i64 0, .int .u64 0, .slice none 0 0, .int .u64 0, .int .i64 0, .int .i64 0, .int .u32 0, .int .u32 0, .int .u32 0] : List Value).toArray 28))
  have HI := Lib.hid h
  have hgs : ∀ W, Below w.heap.size w W → Calls Try.prog 28 #[.agg #[.int .i64 ocl, .int .i64 oty, .slice oa on oc]] W (GsPost W (gsP ocl ol)) := fun W hb => guess_calls ocl oty oa on oc ol W ⟨(h.1.below hb).more hb.size, h.2⟩ hn
  clear hn1 h
  go_enter Try.func16, Try.ntmps16
  go_upto_region 1 with fail
  revert H0 H1 HB
  generalize World.alloc (World.alloc w _) _ = W1
  intro H0 H1 HB
  have x0 := H0.out.cell 0
  have x1 := H0.out.cell 1
  have x2 := H0.out.cell 2
  simp only [List.getElem?_cons_zero, List.getElem?_cons_succ] at x0 x1 x2
  have hgc := hgs W1 HB.out
  go_wp2_with fail
  ((with_reducible refine hgc.mono ?_))
  rintro e W2 ⟨y, rfl, hv, hacc, hyn, hb, bu, ba, bl, bn⟩
  clear hgc hgs x0 x1 x2
  have HY := Lib.hid (Blk.new W2 28 y.cells)
  have bw := bel_new hb (.cells y.cells.toArray 28)
  have H02 := Lib.hid (H0.out.below bw)
  have H12 := Lib.hid (H1.out.below bw)
  have HB2 := Lib.hid (bel_more HB.out (Nat.le_refl _) bw)
  have hacc2 := AccR.alloc (AccR.lower hacc HB.out.size) (.cells y.cells.toArray 28)
  have HA2 := Lib.hid hacc2
  have hcp := AccR.cap hacc2
  have hfy : Fine (W2.alloc (.cells y.cells.toArray 28)) (W2.alloc (.cells y.cells.toArray 28)).heap.size y := ⟨by rw [hyn]; exact AccR.row hacc2, by omega, bu, ba, bl, bn⟩
  have hpc := rpack_calls y _ hfy
  rw [hv] at hpc
  have HV := Lib.hid hv
  have HYN := Lib.hid hyn
  clear hb bw H0 H1 HB hacc hacc2 hcp hfy bu ba bl bn hv hyn
  obtain ⟨ycl, ya, yb, yc, yu, yla, yln, ylc, yl, ybw, ysu, yho, yan, yal, yno⟩ := y
  simp only [It.cells] at HY H02 H12 HB2 HA2 hpc ⊢
  go_upto_region 2 with fail
  revert HY H02 H12 HB2 HA2 hpc
  generalize World.alloc W2 _ = W3
  intro HY H02 H12 HB2 HA2 hpc
  obtain ⟨q1, hq1⟩ : ∃ q, q = W2.heap.size := ⟨_, rfl⟩
  rw [← hq1] at HY ⊢
  clear hq1
  have y0 := HY.out.cell 0
  have y1 := HY.out.cell 1
  have y2 := HY.out.cell 2
  have y3 := HY.out.cell 3
  have y4 := HY.out.cell 4
  have y5 := HY.out.cell 5
  have y6 := HY.out.cell 6
  have y7 := HY.out.cell 7
  have y8 := HY.out.cell 8
  have y9 := HY.out.cell 9
  have y10 := HY.out.cell 10
  have y11 := HY.out.cell 11
  simp only [List.getElem?_cons_zero, List.getElem?_cons_succ] at y0 y1 y2 y3 y4 y5 y6 y7 y8 y9 y10 y11
  go_wp2_with fail
  ((with_reducible refine hpc.mono ?_))
  rintro e W4 ⟨q, er, rfl, hbt, hb, hres⟩
  clear hpc y0 y1 y2 y3 y4 y5 y6 y7 y8 y9 y10 y11
  have HQ := Lib.hid (Blk.new W4 38 (eo q))
  have bw := bel_new hb (.cells (eo q).toArray 38)
  have H04 := Lib.hid (H02.out.below bw)
  have H14 := Lib.hid (H12.out.below bw)
  have HY4 := Lib.hid (HY.out.below bw)
  have HB4 := Lib.hid (bel_more HB2.out (Nat.le_refl _) bw)
  have HA4 := Lib.hid (AccR.bel HA2.out bw)
  have HBT := Lib.hid ((hbt.below (bel_new (Below.refl _ _) (.cells (eo q).toArray 38))).more (show W4.heap.size ≤ (W4.alloc (.cells (eo q).toArray 38)).heap.size by simp))
  have HRES := Lib.hid hres
  clear hb bw hbt H02 H12 HY HB2 HA2 hres
  obtain ⟨qcl, qty, qa, qn, qc, ql⟩ := q
  simp only [eo, Ob.val] at HQ H04 H14 HY4 HB4 HA4 HBT HRES ⊢
  go_upto_region 3 with fail
  revert HQ H04 H14 HY4 HB4 HA4 HBT
  generalize World.alloc W4 _ = W5
  intro HQ H04 H14 HY4 HB4 HA4 HBT
  obtain ⟨q2, hq2⟩ : ∃ q, q = W4.heap.size := ⟨_, rfl⟩
  rw [← hq2] at HQ ⊢
  clear hq2
  go_cut [23] (fun v W => CutG w (ocl, oty, ol) q1 ⟨ycl, ya, yb, yc, yu, yla, yln, ylc, yl, ⟨ybw, ysu, yho, yan, yal, yno⟩⟩ v W)
  case first =>
    rcases HRES.out with ⟨rfl, hp⟩ | ⟨rfl, hp, _⟩
    · have HP := Lib.hid hp
      clear hp HRES
      have n2 := Blk.new W5 38 [.int .i64 qcl, .int .i64 qty, .slice qa qn qc]
      have n3 := Blk.new (W5.alloc (.cells (([.int .i64 qcl, .int .i64 qty, .slice qa qn qc] : List Value).toArray) 38)) 38 [.int .i64 ocl, .int .i64 oty, .slice oa on oc]
      simp only [World.size_alloc] at n3
      have n2' := n2.alloc (.cells ([.int .i64 ocl, .int .i64 oty, .slice oa on oc] : List Value).toArray 38)
      have bw := bel_new (bel_new (Below.refl W5.heap.size W5) (.cells (([.int .i64 qcl, .int .i64 qty, .slice qa qn qc] : List Value).toArray) 38)) (.cells ([.int .i64 ocl, .int .i64 oty, .slice oa on oc] : List Value).toArray 38)
      have hio := (HI.out.1.below HB4.out).more HB4.out.size
      have hc := same6_one W5.heap.size (W5.heap.size + 1) ⟨qcl, qty, qa, qn, qc, ql⟩ ⟨ocl, oty, oa, on, oc, ol⟩ _ _ _ ⟨n2'.cell 0, n2'.cell 1, n2'.cell 2⟩ ⟨n3.cell 0, n3.cell 1, n3.cell 2⟩ (HBT.out.below bw) (hio.below bw)
      simp only [Ob.val] at hc
      have BW := Lib.hid bw
      clear n2 n3 n2' bw hio
      have a0 := HQ.out.cell 0
      have a1 := HQ.out.cell 1
      have a2 := HQ.out.cell 2
      simp only [List.getElem?_cons_zero, List.getElem?_cons_succ] at a0 a1 a2
      have b0 := (H04.out.alloc (.cells (([.int .i64 qcl, .int .i64 qty, .slice qa qn qc] : List Value).toArray) 38)).cell 0
      have b1 := (H04.out.alloc (.cells (([.int .i64 qcl, .int .i64 qty, .slice qa qn qc] : List Value).toArray) 38)).cell 1
      have b2 := (H04.out.alloc (.cells (([.int .i64 qcl, .int .i64 qty, .slice qa qn qc] : List Value).toArray) 38)).cell 2
      simp only [List.getElem?_cons_zero, List.getElem?_cons_succ] at b0 b1 b2
      go_wp2_with fail
      ((with_reducible refine hc.mono ?_))
      rintro e W6 ⟨rfl, m, rfl⟩
      clear hc a0 a1 a2 b0 b1 b2
      have BM := Lib.hid (bel_drewN BW.out m)
      revert BM
      generalize World.drewN _ m = W7
      intro BM
      have HBF := Lib.hid (bel_more HB4.out (Nat.le_refl _) BM.out)
      have HF := Lib.hid (And.intro (H14.out.below BM.out) (And.intro (HY4.out.below BM.out) (AccR.bel HA4.out BM.out)))
      cases hs : osame (qcl, qty, ql) (ocl, oty, ol) with
      | true =>
        have HS := Lib.hid ((osame_iff _ _).1 hs)
        clear hs
        go_wp2
        go_meet
        refine ⟨⟨HF.out.1, HF.out.2.1, HF.out.2.2, HBF.out⟩, false, rfl, .inr ⟨rfl, ?_⟩⟩
        have h1 := HP.out
        rw [HS.out] at h1
        rw [unpack_gs]
        simp only
        rw [if_pos h1, HV.out]
      | false =>
        have HS := Lib.hid (show ¬ (qcl, qty, ql) = (ocl, oty, ol) from fun e => by rw [(osame_iff _ _).2 e] at hs; cases hs)
        clear hs
        go_wp2
        go_meet
        refine ⟨⟨HF.out.1, HF.out.2.1, HF.out.2.2, HBF.out⟩, true, rfl, .inl ⟨rfl, ?_⟩⟩
        have h1 := HP.out
        rw [unpack_gs]
        simp only
        rw [if_neg (fun e => by rw [h1] at e; injection e with e; exact HS.out e)]
    · have HP := Lib.hid hp
      clear hp HRES
      go_wp2
      go_meet
      refine ⟨⟨H14.out, HY4.out, HA4.out, HB4.out⟩, true, rfl, .inl ⟨rfl, ?_⟩⟩
      rw [unpack_gs]
      simp only
      rw [if_neg (fun e => by rw [HP.out] at e; cases e)]
  case rest =>
    obtain ⟨⟨h1, h2, h3, h4⟩, v, rfl, hv⟩ := hcut
    clear HQ H04 H14 HY4 HB4 HA4 HBT HRES HV HI
    have H1 := Lib.hid h1
    have H2 := Lib.hid h2
    have H3 := Lib.hid h3
    have HB := Lib.hid h4
    clear h1 h2 h3 h4
    simp only [It.cells] at H2
    have r0 := H1.out.cell 0
    have g0 := H1.out.free 0
    have r1 := H1.out.cell 1
    have g1 := H1.out.free 1
    have r2 := H1.out.cell 2
    have g2 := H1.out.free 2
    have r3 := H1.out.cell 3
    have g3 := H1.out.free 3
    have r4 := H1.out.cell 4
    have g4 := H1.out.free 4
    have r5 := H1.out.cell 5
    have g5 := H1.out.free 5
    have r6 := H1.out.cell 6
    have g6 := H1.out.free 6
    have r7 := H1.out.cell 7
    have g7 := H1.out.free 7
    have r8 := H1.out.cell 8
    have g8 := H1.out.free 8
    have r9 := H1.out.cell 9
    have g9 := H1.out.free 9
    have r10 := H1.out.cell 10
    have g10 := H1.out.free 10
    have r11 := H1.out.cell 11
    have g11 := H1.out.free 11
    simp only [List.getElem?_cons_zero, List.getElem?_cons_succ] at r0 r1 r2 r3 r4 r5 r6 r7 r8 r9 r10 r11
    rcases hv with ⟨rfl, hp⟩ | ⟨rfl, hp⟩
    · have HP := Lib.hid hp
      clear hp
      go_wp2
      clear r0 g0 r1 g1 r2 g2 r3 g3 r4 g4 r5 g5 r6 g6 r7 g7 r8 g8 r9 g9 r10 g10 r11 g11
      have HO := Lib.hid (item_put HB.out (by omega) H1.out (.int .i64 0) (.int .i64 0) (.int .i64 0) (.int .i64 0) (.int .u64 0) (.slice none 0 0) (.int .u64 0) (.int .i64 0) (.int .i64 0) (.int .u32 0) (.int .u32 0) (.int .u32 0))
      revert HO
      generalize World.setCell (World.setCell (World.setCell (World.setCell (World.setCell (World.setCell (World.setCell (World.setCell (World.setCell (World.setCell (World.setCell (World.setCell wc _ _) _ _) _ _) _ _) _ _) _ _) _ _) _ _) _ _) _ _) _ _) _ _ = W8
      intro HO
      have y0 := HO.out.1.cell 0
      have y1 := HO.out.1.cell 1
      have y2 := HO.out.1.cell 2
      have y3 := HO.out.1.cell 3
      have y4 := HO.out.1.cell 4
      have y5 := HO.out.1.cell 5
      have y6 := HO.out.1.cell 6
      have y7 := HO.out.1.cell 7
      have y8 := HO.out.1.cell 8
      have y9 := HO.out.1.cell 9
      have y10 := HO.out.1.cell 10
      have y11 := HO.out.1.cell 11
      simp only [List.getElem?_cons_zero, List.getElem?_cons_succ] at y0 y1 y2 y3 y4 y5 y6 y7 y8 y9 y10 y11
      refine bodyPost_ret (v := .tuple #[.agg #[.int .i64 0, .int .i64 0, .int .i64 0, .int .i64 0, .int .u64 0, .slice none 0 0, .int .u64 0, .int .i64 0, .int .i64 0, .int .u32 0, .int .u32 0, .int .u32 0], .int .i64 5]) (by simp [results, Try.results16, go_sem, y0, y1, y2, y3, y4, y5, y6, y7, y8, y9, y10, y11]) rfl ?_
      exact ⟨⟨0, 0, 0, 0, 0, none, 0, 0, [], Wnt.zero⟩, 5, rfl, Row.nil, Nat.zero_le _, HO.out.2.1, .inr ⟨rfl, HP.out, rfl⟩⟩
    · have HP := Lib.hid hp
      clear hp
      have b0 := H2.out.cell 0
      have b1 := H2.out.cell 1
      have b2 := H2.out.cell 2
      have b3 := H2.out.cell 3
      have b4 := H2.out.cell 4
      have b5 := H2.out.cell 5
      have b6 := H2.out.cell 6
      have b7 := H2.out.cell 7
      have b8 := H2.out.cell 8
      have b9 := H2.out.cell 9
      have b10 := H2.out.cell 10
      have b11 := H2.out.cell 11
      simp only [List.getElem?_cons_zero, List.getElem?_cons_succ] at b0 b1 b2 b3 b4 b5 b6 b7 b8 b9 b10 b11
      go_wp2
      clear r0 g0 r1 g1 r2 g2 r3 g3 r4 g4 r5 g5 r6 g6 r7 g7 r8 g8 r9 g9 r10 g10 r11 g11 b0 b1 b2 b3 b4 b5 b6 b7 b8 b9 b10 b11
      have HO := Lib.hid (item_put HB.out (by omega) H1.out (.int .i64 ycl) (.int .i64 ya) (.int .i64 yb) (.int .i64 yc) (.int .u64 (yu : Int)) (.slice yla yln ylc) (.int .u64 (ybw : Int)) (.int .i64 ysu) (.int .i64 yho) (.int .u32 (yan : Int)) (.int .u32 (yal : Int)) (.int .u32 (yno : Int)))
      revert HO
      generalize World.setCell (World.setCell (World.setCell (World.setCell (World.setCell (World.setCell (World.setCell (World.setCell (World.setCell (World.setCell (World.setCell (World.setCell wc _ _) _ _) _ _) _ _) _ _) _ _) _ _) _ _) _ _) _ _) _ _) _ _ = W8
      intro HO
      have y0 := HO.out.1.cell 0
      have y1 := HO.out.1.cell 1
      have y2 := HO.out.1.cell 2
      have y3 := HO.out.1.cell 3
      have y4 := HO.out.1.cell 4
      have y5 := HO.out.1.cell 5
      have y6 := HO.out.1.cell 6
      have y7 := HO.out.1.cell 7
      have y8 := HO.out.1.cell 8
      have y9 := HO.out.1.cell 9
      have y10 := HO.out.1.cell 10
      have y11 := HO.out.1.cell 11
      simp only [List.getElem?_cons_zero, List.getElem?_cons_succ] at y0 y1 y2 y3 y4 y5 y6 y7 y8 y9 y10 y11
      refine bodyPost_ret (v := .tuple #[.agg #[.int .i64 ycl, .int .i64 ya, .int .i64 yb, .int .i64 yc, .int .u64 (yu : Int), .slice yla yln ylc, .int .u64 (ybw : Int), .int .i64 ysu, .int .i64 yho, .int .u32 (yan : Int), .int .u32 (yal : Int), .int .u32 (yno : Int)], .int .i64 0]) (by simp [results, Try.results16, go_sem, y0, y1, y2, y3, y4, y5, y6, y7, y8, y9, y10, y11]) rfl ?_
      have ha := HO.out.2.2 _ _ _ _ (by decide) H3.out
      have hcp := AccR.cap ha
      have hyn := HYN.out
      exact ⟨⟨ycl, ya, yb, yc, yu, yla, yln, ylc, yl, ⟨ybw, ysu, yho, yan, yal, yno⟩⟩, 0, rfl, by simp only; rw [hyn]; exact AccR.row ha, by simp only; omega, HO.out.2.1, .inl ⟨rfl, HP.out⟩⟩
end Go.Proofs.Ytocogdcecnnnnaa
