/-
  The statement BodyUnpacks, walked. Condition: the object's body reads as bytes, and has at least so much room.
-/
import Derived.Test.YtocogdcecnnnnaaBodyH2
namespace Go.Proofs.Ytocogdcecnnnnaa
open Go.RowKit

theorem alike2 {o : Int × Int × List UInt8} {x y : PIt} {er er2 : Int} (h1 : (er = 0 ∧ unpack o = some x) ∨ (er = 5 ∧ unpack o = none ∧ x = .blank 0)) (h2 : (er2 = 0 ∧ unpack o = some y) ∨ (er2 = 5 ∧ unpack o = none ∧ y = .blank 0)) : er2 = er ∧ x.same y = true := by
  rcases h1 with ⟨e1, a⟩ | ⟨e1, a, b⟩
  · rcases h2 with ⟨e2, c⟩ | ⟨e2, c, d⟩
    · rw [a] at c
      injection c with c
      exact ⟨by rw [e1, e2], (PIt.same_iff _ _).2 c⟩
    · rw [a] at c; cases c
  · rcases h2 with ⟨e2, c⟩ | ⟨e2, c, d⟩
    · rw [a] at c; cases c
    · exact ⟨by rw [e1, e2], (PIt.same_iff _ _).2 (b.trans d.symm)⟩

set_option maxRecDepth 100000 in
set_option maxHeartbeats 6400000 in
theorem bodyUnpacks_walk (o : Ob) (w : World) (ho : Inb w o.a o.n o.c o.l) :
    Calls Try.prog 4 #[.agg (eo o).toArray] w (SamePost w true) := by
  have H0 := Lib.hid (Blk.new w 38 (eo o))
  have HB := Lib.hid (bel_new (Below.refl w.heap.size w) (.cells (eo o).toArray 38))
  have HI := Lib.hid ho
  have hcm := Nat.le_trans ho.2.1 ho.2.2
  clear ho
  unfold maxLen at hcm
  obtain ⟨ocl, oty, oa, on, oc, ol⟩ := o
  simp only [eo] at H0 HB HI hcm ⊢
  go_enter Try.func4, Try.ntmps4
  go_upto_region 1 with fail
  revert H0 HB
  generalize World.alloc w _ = W1
  intro H0 HB
  have hal := alive7_calls W1
  go_wp2_with fail
  ((with_reducible refine hal.mono ?_))
  rintro e W2 ⟨rfl, hb⟩
  clear hal
  have H2 := Lib.hid (H0.out.below hb)
  have HB2 := Lib.hid (bel_more HB.out (Nat.le_refl _) hb)
  clear hb H0 HB
  have b0 := H2.out.cell 0
  have b1 := H2.out.cell 1
  have b2 := H2.out.cell 2
  simp only [List.getElem?_cons_zero, List.getElem?_cons_succ] at b0 b1 b2
  by_cases hgx : 6000 < on
  · have g1 : (6000 : Int) < (on : Int) := by omega
    go_wp2
    go_ret
    exact ⟨rfl, HB2.out⟩
  have g0 : ¬ (6000 : Int) < (on : Int) := by omega
  have hot := otheirs_calls ocl oty oa on oc
  go_wp2_with fail
  ((with_reducible refine (hot _).mono ?_))
  rintro e W3 ⟨rfl, hb⟩
  have H3 := Lib.hid (H2.out.below hb)
  have HB3 := Lib.hid (bel_more HB2.out (Nat.le_refl _) hb)
  clear hb hot H2 HB2 b0 b1 b2
  have hu := unpack_calls ocl oty oa on oc ol W3 ((HI.out.1.below HB3.out).more HB3.out.size) (by omega)
  go_wp2_with fail
  ((with_reducible refine hu.mono ?_))
  intro e W4 hpost
  obtain ⟨x, er, rfl, hrx, hxn, hb, hres⟩ := hpost.told
  clear hu hpost
  have HX := Lib.hid (Blk.new W4 36 x.cells)
  have bw := bel_new hb (.cells x.cells.toArray 36)
  have H4 := Lib.hid (H3.out.below bw)
  have HB4 := Lib.hid (bel_more HB3.out (Nat.le_refl _) bw)
  have HRX := Lib.hid ((hrx.below (bel_new (Below.refl _ _) (.cells x.cells.toArray 36))).more (show W4.heap.size ≤ (W4.alloc (.cells x.cells.toArray 36)).heap.size by simp))
  have HRES := Lib.hid hres
  have HXN := Lib.hid hxn
  have hox := ours7_calls x
  clear hb bw hrx hres hxn H3 HB3
  obtain ⟨xcl, xa, xb, xc, xu, xla, xln, xlc, xl, xbw, xsu, xho, xan, xal, xno⟩ := x
  simp only [It.cells] at HX H4 HB4 HRX HXN hox ⊢
  go_upto_region 6 with fail
  revert HX H4 HB4 HRX
  generalize World.alloc W4 _ = W5
  intro HX H4 HB4 HRX
  obtain ⟨q1, hq1⟩ : ∃ q, q = W4.heap.size := ⟨_, rfl⟩
  rw [← hq1] at HX ⊢
  clear hq1
  have hru := runpack_calls ocl oty oa on oc ol W5 ⟨(HI.out.1.below HB4.out).more HB4.out.size, HI.out.2⟩ (by omega)
  have b0 := H4.out.cell 0
  have b1 := H4.out.cell 1
  have b2 := H4.out.cell 2
  simp only [List.getElem?_cons_zero, List.getElem?_cons_succ] at b0 b1 b2
  go_wp2_with fail
  ((with_reducible refine hru.mono ?_))
  rintro e W6 ⟨y, er2, rfl, hry, hyn, hb, hres⟩
  clear hru b0 b1 b2
  obtain ⟨hee, hsv⟩ := alike2 HRES.out hres
  subst hee
  have HY := Lib.hid (Blk.new W6 28 y.cells)
  have bw := bel_new hb (.cells y.cells.toArray 28)
  have HX6 := Lib.hid (HX.out.below bw)
  have HRX6 := Lib.hid ((HRX.out.below bw).more bw.size)
  have HB6 := Lib.hid (bel_more HB4.out (Nat.le_refl _) bw)
  have HRY := Lib.hid ((hry.below (bel_new (Below.refl _ _) (.cells y.cells.toArray 28))).more (show W6.heap.size ≤ (W6.alloc (.cells y.cells.toArray 28)).heap.size by simp))
  have hsm : ∀ V W, Row ei V V.heap.size xla xln xl → Row ei V V.heap.size y.la y.ln y.l → Below V.heap.size V W → Calls Try.prog 17 #[.agg (It.cells ⟨xcl, xa, xb, xc, xu, xla, xln, xlc, xl, ⟨xbw, xsu, xho, xan, xal, xno⟩⟩).toArray, .agg y.cells.toArray] W (SamePost W ((It.val ⟨xcl, xa, xb, xc, xu, xla, xln, xlc, xl, ⟨xbw, xsu, xho, xan, xal, xno⟩⟩).same y.val)) := fun V W h1 h2 hb => rsame7_calls ⟨xcl, xa, xb, xc, xu, xla, xln, xlc, xl, ⟨xbw, xsu, xho, xan, xal, xno⟩⟩ y V.heap.size V.heap.size W (h1.below hb) (h2.below hb) hb.size hb.size HXN.out hyn
  rw [hsv] at hsm
  clear hb bw HX HRX HB4 H4 hres HRES hsv hry
  obtain ⟨ycl, ya, yb, yc, yu, yla, yln, ylc, yl, ybw, ysu, yho, yan, yal, yno⟩ := y
  simp only [It.cells] at HY HX6 HRX6 HB6 HRY hsm ⊢
  go_upto_region 7 with fail
  revert HY HX6 HRX6 HB6 HRY
  generalize World.alloc W6 _ = W8
  intro HY HX6 HRX6 HB6 HRY
  obtain ⟨q2, hq2⟩ : ∃ q, q = W6.heap.size := ⟨_, rfl⟩
  rw [← hq2] at HY ⊢
  clear hq2
  go_wp2
  refine region_seq (fun W => Below W8.heap.size W8 W)
    [(0, true), (2, true), (1, false), (3, false), (4, true), (5, true), (6, true), (7, true), (8, true), (9, true)]
    (by kernel_rfl) (by kernel_rfl) (by kernel_rfl) (by kernel_rfl) (fun _ _ _ _ _ h => h) ⟨rfl, rfl, rfl, Nat.le_refl _, fun _ _ => rfl⟩ ?_
  repeat
    first
    | (refine seq_pure (v := ?_) rfl (by rfl) (fun W hW => ?_) ?_
       rotate_left
       · clear hW
         go_simp
         with_reducible rfl
       simp only [Act.put, List.setIfInBounds_toArray, List.set_cons_zero, List.set_cons_succ])
    | (refine seq_pure (v := ?_) rfl (by rfl) (fun W hW => ?_) ?_
       rotate_left
       · have a0 := (HX6.out.below hW).cell 0
         have a1 := (HX6.out.below hW).cell 1
         have a2 := (HX6.out.below hW).cell 2
         have a3 := (HX6.out.below hW).cell 3
         have a4 := (HX6.out.below hW).cell 4
         have a5 := (HX6.out.below hW).cell 5
         have a6 := (HX6.out.below hW).cell 6
         have a7 := (HX6.out.below hW).cell 7
         have a8 := (HX6.out.below hW).cell 8
         have a9 := (HX6.out.below hW).cell 9
         have a10 := (HX6.out.below hW).cell 10
         have a11 := (HX6.out.below hW).cell 11
         simp only [List.getElem?_cons_zero, List.getElem?_cons_succ] at a0 a1 a2 a3 a4 a5 a6 a7 a8 a9 a10 a11
         go_simp
         with_reducible rfl
       simp only [Act.put, List.setIfInBounds_toArray, List.set_cons_zero, List.set_cons_succ])
    | (refine seq_pure (v := ?_) rfl (by rfl) (fun W hW => ?_) ?_
       rotate_left
       · have a0 := (HY.out.below hW).cell 0
         have a1 := (HY.out.below hW).cell 1
         have a2 := (HY.out.below hW).cell 2
         have a3 := (HY.out.below hW).cell 3
         have a4 := (HY.out.below hW).cell 4
         have a5 := (HY.out.below hW).cell 5
         have a6 := (HY.out.below hW).cell 6
         have a7 := (HY.out.below hW).cell 7
         have a8 := (HY.out.below hW).cell 8
         have a9 := (HY.out.below hW).cell 9
         have a10 := (HY.out.below hW).cell 10
         have a11 := (HY.out.below hW).cell 11
         simp only [List.getElem?_cons_zero, List.getElem?_cons_succ] at a0 a1 a2 a3 a4 a5 a6 a7 a8 a9 a10 a11
         go_simp
         with_reducible rfl
       simp only [Act.put, List.setIfInBounds_toArray, List.set_cons_zero, List.set_cons_succ])
    | (refine seq_skip rfl (by rfl) ?_
       simp only [Act.put, List.setIfInBounds_toArray, List.set_cons_zero, List.set_cons_succ])
  refine seq_make rfl (by rfl) (fun K hK => ?_)
  go_simp
  ((with_reducible refine (hox _).mono ?_))
  rintro e V1 ⟨rfl, hb⟩
  have HS1 := Lib.hid (show Below W8.heap.size W8 V1 from below_of_drew hb)
  clear hb
  simp only [It.cells]
  go_simp
  refine hK _ _ (fun W => Below W8.heap.size W8 W) (fun W h => h) HS1.out ?_
  clear hK K
  refine seq_make rfl (by rfl) (fun K hK => ?_)
  go_simp
  have hc := hsm W8 V1 HRX6.out HRY.out HS1.out
  ((with_reducible refine hc.mono ?_))
  rintro e V2 ⟨rfl, hb⟩
  have HS2 := Lib.hid (show Below W8.heap.size W8 V2 from bel_more HS1.out (Nat.le_refl _) hb)
  clear hb hc
  go_simp
  refine hK _ _ (fun W => Below W8.heap.size W8 W) (fun W h => h) HS2.out ?_
  clear hK K
  repeat
    first
    | (refine seq_pure (v := ?_) rfl (by rfl) (fun W hW => ?_) ?_
       rotate_left
       · clear hW
         go_simp
         with_reducible rfl
       simp only [Act.put, List.setIfInBounds_toArray, List.set_cons_zero, List.set_cons_succ])
    | (refine seq_skip rfl (by rfl) ?_
       simp only [Act.put, List.setIfInBounds_toArray, List.set_cons_zero, List.set_cons_succ])
  refine seq_done ?_
  go_wp2
  go_ret
  exact ⟨by first | rfl | simp, bel_more HB6.out (Nat.le_refl _) HS2.out⟩
end Go.Proofs.Ytocogdcecnnnnaa
