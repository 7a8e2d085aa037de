/-
  The statement BodyUnlike, walked. Condition: the items' lists read as numbers.
-/
import Derived.Test.YtocogdcecnnnnaaBodyO
namespace Go.Proofs.Ytocogdcecnnnnaa
open Go.RowKit

/-- What Pack answers, in one form. -/
theorem PackPost.told {w w' : World} {x : PIt} {e : Ending} (h : PackPost w x e w') :
    ∃ (q : Ob) (er : Int), e = .returned (.tuple #[.agg (eo q).toArray, .int .i64 er]) ∧ Bts w' w'.heap.size q.a q.n q.l ∧ q.n = q.l.length ∧ Below w.heap.size w w' ∧ ((er = 0 ∧ pack x = some q.val) ∨ (er = 2 ∧ pack x = none)) := by
  obtain ⟨hb, ⟨hn, he⟩ | ⟨o, A, c, hp, he, ha⟩⟩ := h
  · exact ⟨⟨0, 0, none, 0, 0, []⟩, 2, he, Bts.nil, rfl, hb, .inr ⟨rfl, hn⟩⟩
  · exact ⟨⟨o.1, o.2.1, A, o.2.2.length, c, o.2.2⟩, 0, he, ha.bts, rfl, hb, .inl ⟨rfl, hp⟩⟩

set_option maxRecDepth 100000 in
set_option maxHeartbeats 6400000 in
theorem bodyUnlike_walk (x y : It) (w : World) (hx : Fine w w.heap.size x) (hy : Fine w w.heap.size y) :
    Calls Try.prog 6 #[.agg x.cells.toArray, .agg y.cells.toArray] w (SamePost w true) := by
  have hn1 := Blk.new (w.alloc (.cells x.cells.toArray 28)) 28 y.cells
  simp only [World.size_alloc] at hn1
  have H0 := Lib.hid ((Blk.new w 28 x.cells).alloc (.cells y.cells.toArray 28))
  have H1 := Lib.hid hn1
  have HB := Lib.hid (bel_new (bel_new (Below.refl w.heap.size w) (.cells x.cells.toArray 28)) (.cells y.cells.toArray 28))
  have HX := Lib.hid hx
  have HY := Lib.hid hy
  have hlx := hx.len
  have hly := hy.len
  have hcx := theirs7_calls x
  have hcy := theirs7_calls y
  have hpx : ∀ W, Below w.heap.size w W → Calls Try.prog 9 #[.agg x.cells.toArray] W (PackPost W x.val) := fun W hb => pack_calls x W ((HX.out.below hb).more hb.size)
  have hpy : ∀ W, Below w.heap.size w W → Calls Try.prog 9 #[.agg y.cells.toArray] W (PackPost W y.val) := fun W hb => pack_calls y W ((HY.out.below hb).more hb.size)
  have hsm : ∀ W, Below w.heap.size w W → Calls Try.prog 17 #[.agg x.cells.toArray, .agg y.cells.toArray] W (SamePost W (x.val.same y.val)) := fun W hb => rsame7_calls x y w.heap.size w.heap.size W (HX.out.row.below hb) (HY.out.row.below hb) hb.size hb.size HX.out.len HY.out.len
  clear hn1 hx hy HX HY
  unfold maxLen at hlx hly
  obtain ⟨xcl, xa, xb, xc, xu, xla, xln, xlc, xl, xbw, xsu, xho, xan, xal, xno⟩ := x
  obtain ⟨ycl, ya, yb, yc, yu, yla, yln, ylc, yl, ybw, ysu, yho, yan, yal, yno⟩ := y
  simp only [It.cells] at H0 H1 HB hcx hcy hpx hpy hsm hlx hly ⊢
  go_enter Try.func6, Try.ntmps6
  go_upto_region 1 with fail
  revert H0 H1 HB
  generalize World.alloc (World.alloc w _) _ = W1
  intro H0 H1 HB
  have hal := alive7_calls W1
  go_wp2_with fail
  ((with_reducible refine hal.mono ?_))
  rintro e W2 ⟨rfl, hb⟩
  clear hal
  have H02 := Lib.hid (H0.out.below hb)
  have H12 := Lib.hid (H1.out.below hb)
  have HB2 := Lib.hid (bel_more HB.out (Nat.le_refl _) hb)
  clear hb H0 H1 HB
  have x5 := H02.out.cell 5
  have y5 := H12.out.cell 5
  simp only [List.getElem?_cons_zero, List.getElem?_cons_succ] at x5 y5
  by_cases hgx : 6000 < xln
  · have g1 : (6000 : Int) < (xln : Int) := by omega
    go_wp2
    go_ret
    exact ⟨rfl, HB2.out⟩
  by_cases hgy : 6000 < yln
  · have g0 : ¬ (6000 : Int) < (xln : Int) := by omega
    have g1 : (6000 : Int) < (yln : Int) := by omega
    go_wp2
    go_ret
    exact ⟨rfl, HB2.out⟩
  have g0 : ¬ (6000 : Int) < (xln : Int) := by omega
  have g1 : ¬ (6000 : Int) < (yln : Int) := by omega
  have x0 := H02.out.cell 0
  have x1 := H02.out.cell 1
  have x2 := H02.out.cell 2
  have x3 := H02.out.cell 3
  have x4 := H02.out.cell 4
  have x5 := H02.out.cell 5
  have x6 := H02.out.cell 6
  have x7 := H02.out.cell 7
  have x8 := H02.out.cell 8
  have x9 := H02.out.cell 9
  have x10 := H02.out.cell 10
  have x11 := H02.out.cell 11
  simp only [List.getElem?_cons_zero, List.getElem?_cons_succ] at x0 x1 x2 x3 x4 x5 x6 x7 x8 x9 x10 x11
  go_wp2_with fail
  ((with_reducible refine (hcx _).mono ?_))
  rintro e W3 ⟨rfl, hb⟩
  have H03 := Lib.hid (H02.out.below hb)
  have H13 := Lib.hid (H12.out.below hb)
  have HB3 := Lib.hid (bel_more HB2.out (Nat.le_refl _) hb)
  clear hb H02 H12 HB2 y5 hcx x0 x1 x2 x3 x4 x5 x6 x7 x8 x9 x10 x11
  simp only [It.cells]
  have hp := hpx _ HB3.out
  go_wp2_with fail
  ((with_reducible refine hp.mono ?_))
  intro e W4 hpost
  obtain ⟨q, er, rfl, hbt, hqn, hb, hres⟩ := hpost.told
  clear hp hpx hpost
  have HQ := Lib.hid (Blk.new W4 32 (eo q))
  have bn := bel_new hb (.cells (eo q).toArray 32)
  have H04 := Lib.hid (H03.out.below bn)
  have H14 := Lib.hid (H13.out.below bn)
  have HB4 := Lib.hid (bel_more HB3.out (Nat.le_refl _) bn)
  have HBT := Lib.hid ((hbt.below (bel_new (Below.refl _ _) (.cells (eo q).toArray 32))).more (show W4.heap.size ≤ (W4.alloc (.cells (eo q).toArray 32)).heap.size by simp))
  have HRES := Lib.hid hres
  clear hb bn hbt hqn H03 H13 HB3 hres
  obtain ⟨ocl, oty, oa, on, oc, ol⟩ := q
  simp only [eo] at HQ H04 H14 HB4 HBT ⊢
  go_upto_region 6 with fail
  revert HQ H04 H14 HB4 HBT
  generalize World.alloc W4 _ = W5
  intro HQ H04 H14 HB4 HBT
  obtain ⟨q1, hq1⟩ : ∃ q, q = W4.heap.size := ⟨_, rfl⟩
  rw [← hq1] at HQ ⊢
  clear hq1
  have y0 := H14.out.cell 0
  have y1 := H14.out.cell 1
  have y2 := H14.out.cell 2
  have y3 := H14.out.cell 3
  have y4 := H14.out.cell 4
  have y5 := H14.out.cell 5
  have y6 := H14.out.cell 6
  have y7 := H14.out.cell 7
  have y8 := H14.out.cell 8
  have y9 := H14.out.cell 9
  have y10 := H14.out.cell 10
  have y11 := H14.out.cell 11
  simp only [List.getElem?_cons_zero, List.getElem?_cons_succ] at y0 y1 y2 y3 y4 y5 y6 y7 y8 y9 y10 y11
  go_wp2_with fail
  ((with_reducible refine (hcy _).mono ?_))
  rintro e W6 ⟨rfl, hb⟩
  have H05 := Lib.hid (H04.out.below hb)
  have H15 := Lib.hid (H14.out.below hb)
  have HQ5 := Lib.hid (HQ.out.below hb)
  have HBT5 := Lib.hid ((HBT.out.below hb).more hb.size)
  have HB5 := Lib.hid (bel_more HB4.out (Nat.le_refl _) hb)
  clear hb H04 H14 HQ HBT HB4 hcy y0 y1 y2 y3 y4 y5 y6 y7 y8 y9 y10 y11
  simp only [It.cells]
  have hp := hpy _ HB5.out
  go_wp2_with fail
  ((with_reducible refine hp.mono ?_))
  intro e W7 hpost
  obtain ⟨q, er2, rfl, hbt, hqn, hb, hres⟩ := hpost.told
  clear hp hpy hpost
  have HR := Lib.hid (Blk.new W7 32 (eo q))
  have bn := bel_new hb (.cells (eo q).toArray 32)
  have H06 := Lib.hid (H05.out.below bn)
  have H16 := Lib.hid (H15.out.below bn)
  have HQ6 := Lib.hid (HQ5.out.below bn)
  have HBT6 := Lib.hid ((HBT5.out.below bn).more bn.size)
  have HB6 := Lib.hid (bel_more HB5.out (Nat.le_refl _) bn)
  have HBR := Lib.hid ((hbt.below (bel_new (Below.refl _ _) (.cells (eo q).toArray 32))).more (show W7.heap.size ≤ (W7.alloc (.cells (eo q).toArray 32)).heap.size by simp))
  have HRES2 := Lib.hid hres
  clear hb bn hbt hqn H05 H15 HQ5 HBT5 HB5 hres
  obtain ⟨pcl, pty, pa, pn, pc, pl⟩ := q
  simp only [eo] at HR H06 H16 HQ6 HBT6 HB6 HBR ⊢
  go_upto_region 7 with fail
  revert HR H06 H16 HQ6 HBT6 HB6 HBR
  generalize World.alloc W7 _ = W8
  intro HR H06 H16 HQ6 HBT6 HB6 HBR
  obtain ⟨q2, hq2⟩ : ∃ q, q = W7.heap.size := ⟨_, rfl⟩
  rw [← hq2] at HR ⊢
  clear hq2
  rcases HRES.out with ⟨rfl, hp1⟩ | ⟨rfl, hp1⟩
  · rcases HRES2.out with ⟨rfl, hp2⟩ | ⟨rfl, hp2⟩
    · have HP1 := Lib.hid hp1
      have HP2 := Lib.hid hp2
      have heq : osame (ocl, oty, ol) (pcl, pty, pl) = PIt.same ⟨xcl, xa, xb, xc, xu, xl, ⟨xbw, xsu, xho, xan, xal, xno⟩⟩ ⟨ycl, ya, yb, yc, yu, yl, ⟨ybw, ysu, yho, yan, yal, yno⟩⟩ := by
        have h1 : pack ⟨xcl, xa, xb, xc, xu, xl, ⟨xbw, xsu, xho, xan, xal, xno⟩⟩ = some (ocl, oty, ol) := hp1
        have h2 : pack ⟨ycl, ya, yb, yc, yu, yl, ⟨ybw, ysu, yho, yan, yal, yno⟩⟩ = some (pcl, pty, pl) := hp2
        cases hs : PIt.same ⟨xcl, xa, xb, xc, xu, xl, ⟨xbw, xsu, xho, xan, xal, xno⟩⟩ ⟨ycl, ya, yb, yc, yu, yl, ⟨ybw, ysu, yho, yan, yal, yno⟩⟩ with
        | true =>
          have e := (PIt.same_iff _ _).1 hs
          rw [e, h2] at h1
          injection h1 with h1
          exact (osame_iff _ _).2 h1.symm
        | false =>
          cases ho : osame (ocl, oty, ol) (pcl, pty, pl) with
          | false => rfl
          | true =>
            have e := (osame_iff _ _).1 ho
            rw [← e] at h2
            have e2 := pack_inj h1 h2
            rw [(PIt.same_iff _ _).2 e2] at hs
            cases hs
      simp only [It.val] at hsm
      rw [← heq] at hsm
      clear heq
      clear hp1 hp2 HRES HRES2
      go_wp2
      refine region_seq (fun W => Below W8.heap.size W8 W)
        [(0, true), (1, true), (2, true), (3, true), (4, true), (5, true), (6, true), (7, true), (9, true), (12, true), (13, true), (8, false), (10, false), (11, false), (14, false), (15, true), (16, true), (17, true)]
        (by kernel_rfl) (by kernel_rfl) (by kernel_rfl) (by kernel_rfl) (fun _ _ _ _ _ h => h) ⟨rfl, rfl, rfl, Nat.le_refl _, fun _ _ => rfl⟩ ?_
      repeat
        first
        | (refine seq_pure (v := ?_) rfl (by rfl) (fun W hW => ?_) ?_
           rotate_left
           · clear hW
             go_simp
             with_reducible rfl
           simp only [Act.put, List.setIfInBounds_toArray, List.set_cons_zero, List.set_cons_succ])
        | (refine seq_pure (v := ?_) rfl (by rfl) (fun W hW => ?_) ?_
           rotate_left
           · have a0 := (HQ6.out.below hW).cell 0
             have a1 := (HQ6.out.below hW).cell 1
             have a2 := (HQ6.out.below hW).cell 2
             simp only [List.getElem?_cons_zero, List.getElem?_cons_succ] at a0 a1 a2
             go_simp
             with_reducible rfl
           simp only [Act.put, List.setIfInBounds_toArray, List.set_cons_zero, List.set_cons_succ])
        | (refine seq_pure (v := ?_) rfl (by rfl) (fun W hW => ?_) ?_
           rotate_left
           · have a0 := (HR.out.below hW).cell 0
             have a1 := (HR.out.below hW).cell 1
             have a2 := (HR.out.below hW).cell 2
             simp only [List.getElem?_cons_zero, List.getElem?_cons_succ] at a0 a1 a2
             go_simp
             with_reducible rfl
           simp only [Act.put, List.setIfInBounds_toArray, List.set_cons_zero, List.set_cons_succ])
        | (refine seq_pure (v := ?_) rfl (by rfl) (fun W hW => ?_) ?_
           rotate_left
           · have a0 := (H06.out.below hW).cell 0
             have a1 := (H06.out.below hW).cell 1
             have a2 := (H06.out.below hW).cell 2
             have a3 := (H06.out.below hW).cell 3
             have a4 := (H06.out.below hW).cell 4
             have a5 := (H06.out.below hW).cell 5
             have a6 := (H06.out.below hW).cell 6
             have a7 := (H06.out.below hW).cell 7
             have a8 := (H06.out.below hW).cell 8
             have a9 := (H06.out.below hW).cell 9
             have a10 := (H06.out.below hW).cell 10
             have a11 := (H06.out.below hW).cell 11
             simp only [List.getElem?_cons_zero, List.getElem?_cons_succ] at a0 a1 a2 a3 a4 a5 a6 a7 a8 a9 a10 a11
             go_simp
             with_reducible rfl
           simp only [Act.put, List.setIfInBounds_toArray, List.set_cons_zero, List.set_cons_succ])
        | (refine seq_pure (v := ?_) rfl (by rfl) (fun W hW => ?_) ?_
           rotate_left
           · have a0 := (H16.out.below hW).cell 0
             have a1 := (H16.out.below hW).cell 1
             have a2 := (H16.out.below hW).cell 2
             have a3 := (H16.out.below hW).cell 3
             have a4 := (H16.out.below hW).cell 4
             have a5 := (H16.out.below hW).cell 5
             have a6 := (H16.out.below hW).cell 6
             have a7 := (H16.out.below hW).cell 7
             have a8 := (H16.out.below hW).cell 8
             have a9 := (H16.out.below hW).cell 9
             have a10 := (H16.out.below hW).cell 10
             have a11 := (H16.out.below hW).cell 11
             simp only [List.getElem?_cons_zero, List.getElem?_cons_succ] at a0 a1 a2 a3 a4 a5 a6 a7 a8 a9 a10 a11
             go_simp
             with_reducible rfl
           simp only [Act.put, List.setIfInBounds_toArray, List.set_cons_zero, List.set_cons_succ])
        | (refine seq_skip rfl (by rfl) ?_
           simp only [Act.put, List.setIfInBounds_toArray, List.set_cons_zero, List.set_cons_succ])
      refine seq_make rfl (by rfl) (fun K hK => ?_)
      go_simp
      ((with_reducible refine (oours_calls ocl oty oa on oc _).mono ?_))
      rintro e V1 ⟨rfl, hb⟩
      have HS1 := Lib.hid (show Below W8.heap.size W8 V1 from below_of_drew hb)
      clear hb
      go_simp
      refine hK _ _ (fun W => Below W8.heap.size W8 W) (fun W h => h) HS1.out ?_
      clear hK K
      refine seq_make rfl (by rfl) (fun K hK => ?_)
      go_simp
      ((with_reducible refine (oours_calls pcl pty pa pn pc _).mono ?_))
      rintro e V2 ⟨rfl, hb⟩
      have HS2 := Lib.hid (show Below W8.heap.size W8 V2 from bel_more HS1.out (Nat.le_refl _) hb)
      clear hb
      go_simp
      refine hK _ _ (fun W => Below W8.heap.size W8 W) (fun W h => h) HS2.out ?_
      clear hK K
      refine seq_make rfl (by rfl) (fun K hK => ?_)
      go_simp
      have hc := same7_calls ⟨ocl, oty, oa, on, oc, ol⟩ ⟨pcl, pty, pa, pn, pc, pl⟩ V2 ((HBT6.out.below HS2.out).more HS2.out.size) ((HBR.out.below HS2.out).more HS2.out.size)
      simp only [eo, Ob.val] at hc
      ((with_reducible refine (hc).mono ?_))
      rintro e V3 ⟨rfl, hb⟩
      have HS3 := Lib.hid (show Below W8.heap.size W8 V3 from bel_more HS2.out (Nat.le_refl _) hb)
      clear hb
      clear hc
      go_simp
      refine hK _ _ (fun W => Below W8.heap.size W8 W) (fun W h => h) HS3.out ?_
      clear hK K
      refine seq_make rfl (by rfl) (fun K hK => ?_)
      go_simp
      have hc := hsm V3 (bel_more HB6.out (Nat.le_refl _) HS3.out)
      ((with_reducible refine (hc).mono ?_))
      rintro e V4 ⟨rfl, hb⟩
      have HS4 := Lib.hid (show Below W8.heap.size W8 V4 from bel_more HS3.out (Nat.le_refl _) hb)
      clear hb
      clear hc
      go_simp
      refine hK _ _ (fun W => Below W8.heap.size W8 W) (fun W h => h) HS4.out ?_
      clear hK K
      repeat
        first
        | (refine seq_pure (v := ?_) rfl (by rfl) (fun W hW => ?_) ?_
           rotate_left
           · clear hW
             go_simp
             with_reducible rfl
           simp only [Act.put, List.setIfInBounds_toArray, List.set_cons_zero, List.set_cons_succ])
        | (refine seq_skip rfl (by rfl) ?_
           simp only [Act.put, List.setIfInBounds_toArray, List.set_cons_zero, List.set_cons_succ])
      refine seq_done ?_
      go_wp2
      go_ret
      exact ⟨by simp, bel_more HB6.out (Nat.le_refl _) HS4.out⟩
    · clear hp2
      clear hp1 HRES HRES2
      go_wp2
      refine region_seq (fun W => Below W8.heap.size W8 W)
        [(0, true), (1, true), (2, true), (3, true), (4, true), (5, true), (6, true), (7, true), (8, true), (9, true), (10, true), (11, true), (12, true), (13, true), (14, true), (15, true), (16, true), (17, true)]
        (by kernel_rfl) (by kernel_rfl) (by kernel_rfl) (by kernel_rfl) (fun _ _ _ _ _ h => h) ⟨rfl, rfl, rfl, Nat.le_refl _, fun _ _ => rfl⟩ ?_
      repeat
        first
        | (refine seq_pure (v := ?_) rfl (by rfl) (fun W hW => ?_) ?_
           rotate_left
           · clear hW
             go_simp
             with_reducible rfl
           simp only [Act.put, List.setIfInBounds_toArray, List.set_cons_zero, List.set_cons_succ])
        | (refine seq_skip rfl (by rfl) ?_
           simp only [Act.put, List.setIfInBounds_toArray, List.set_cons_zero, List.set_cons_succ])
      refine seq_done ?_
      go_wp2
      go_ret
      exact ⟨rfl, bel_drewN HB6.out 1⟩
  · clear hp1 HRES HRES2
    go_wp2
    refine region_seq (fun W => Below W8.heap.size W8 W)
      [(0, true), (1, true), (2, true), (3, true), (4, true), (5, true), (6, true), (7, true), (8, true), (9, true), (10, true), (11, true), (12, true), (13, true), (14, true), (15, true), (16, true), (17, true)]
      (by kernel_rfl) (by kernel_rfl) (by kernel_rfl) (by kernel_rfl) (fun _ _ _ _ _ h => h) ⟨rfl, rfl, rfl, Nat.le_refl _, fun _ _ => rfl⟩ ?_
    repeat
      first
      | (refine seq_pure (v := ?_) rfl (by rfl) (fun W hW => ?_) ?_
         rotate_left
         · clear hW
           go_simp
           with_reducible rfl
         simp only [Act.put, List.setIfInBounds_toArray, List.set_cons_zero, List.set_cons_succ])
      | (refine seq_skip rfl (by rfl) ?_
         simp only [Act.put, List.setIfInBounds_toArray, List.set_cons_zero, List.set_cons_succ])
    refine seq_done ?_
    go_wp2
    go_ret
    exact ⟨rfl, bel_drewN HB6.out 1⟩
end Go.Proofs.Ytocogdcecnnnnaa
