/-
  The statement BodyPacks, walked. Condition: the item's list reads as numbers.
-/
import Derived.Test.YtocogdcecnnnnaaBodyX
namespace Go.Proofs.Ytocogdcecnnnnaa
open Go.RowKit

theorem PackPost.told2 {w w' : World} {x : PIt} {e : Ending} (h : PackPost w x e w') : RPackPost w x e w' := by
  obtain ⟨hb, ⟨hn, he⟩ | ⟨o, A, c, hp, he, ha⟩⟩ := h
  · exact ⟨⟨0, 0, none, 0, 0, []⟩, 2, he, Bts.nil, hb, .inr ⟨rfl, hn, rfl⟩⟩
  · exact ⟨⟨o.1, o.2.1, A, o.2.2.length, c, o.2.2⟩, 0, he, ha.bts, hb, .inl ⟨rfl, hp⟩⟩
theorem alike {x : PIt} {q p : Ob} {er er2 : Int} (h1 : (er = 0 ∧ pack x = some q.val) ∨ (er = 2 ∧ pack x = none ∧ q.val = (0, 0, []))) (h2 : (er2 = 0 ∧ pack x = some p.val) ∨ (er2 = 2 ∧ pack x = none ∧ p.val = (0, 0, []))) : er2 = er ∧ osame q.val p.val = true := by
  rcases h1 with ⟨e1, a⟩ | ⟨e1, a, b⟩
  · rcases h2 with ⟨e2, c⟩ | ⟨e2, c, d⟩
    · rw [a] at c
      injection c with c
      exact ⟨by rw [e1, e2], (osame_iff _ _).2 c⟩
    · rw [a] at c; cases c
  · rcases h2 with ⟨e2, c⟩ | ⟨e2, c, d⟩
    · rw [a] at c; cases c
    · exact ⟨by rw [e1, e2], (osame_iff _ _).2 (b.trans d.symm)⟩

set_option maxRecDepth 100000 in
set_option maxHeartbeats 6400000 in
theorem bodyPacks_walk (x : It) (w : World) (hx : Fine w w.heap.size x) :
    Calls Try.prog 3 #[.agg x.cells.toArray] w (SamePost w true) := by
  have H0 := Lib.hid (Blk.new w 28 x.cells)
  have HB := Lib.hid (bel_new (Below.refl w.heap.size w) (.cells x.cells.toArray 28))
  have HX := Lib.hid hx
  have hlx := hx.len
  have hcx := theirs7_calls x
  have hpx : ∀ W, Below w.heap.size w W → Calls Try.prog 9 #[.agg x.cells.toArray] W (PackPost W x.val) := fun W hb => pack_calls x W ((HX.out.below hb).more hb.size)
  have hrx : ∀ W, Below w.heap.size w W → Calls Try.prog 11 #[.agg x.cells.toArray] W (RPackPost W x.val) := fun W hb => rpack_calls x W ((HX.out.below hb).more hb.size)
  clear hx HX
  unfold maxLen at hlx
  obtain ⟨xcl, xa, xb, xc, xu, xla, xln, xlc, xl, xbw, xsu, xho, xan, xal, xno⟩ := x
  simp only [It.cells] at H0 HB hcx hpx hrx hlx ⊢
  go_enter Try.func3, Try.ntmps3
  go_upto_region 1 with fail
  revert H0 HB
  generalize World.alloc w _ = W1
  intro H0 HB
  have hal := alive7_calls W1
  go_wp2_with fail
  ((with_reducible refine hal.mono ?_))
  rintro e W2 ⟨rfl, hb⟩
  clear hal
  have H2 := Lib.hid (H0.out.below hb)
  have HB2 := Lib.hid (bel_more HB.out (Nat.le_refl _) hb)
  clear hb H0 HB
  have x5 := H2.out.cell 5
  simp only [List.getElem?_cons_zero, List.getElem?_cons_succ] at x5
  by_cases hgx : 6000 < xln
  · have g1 : (6000 : Int) < (xln : Int) := by omega
    go_wp2
    go_ret
    exact ⟨rfl, HB2.out⟩
  have g0 : ¬ (6000 : Int) < (xln : Int) := by omega
  have x0 := H2.out.cell 0
  have x1 := H2.out.cell 1
  have x2 := H2.out.cell 2
  have x3 := H2.out.cell 3
  have x4 := H2.out.cell 4
  have x5 := H2.out.cell 5
  have x6 := H2.out.cell 6
  have x7 := H2.out.cell 7
  have x8 := H2.out.cell 8
  have x9 := H2.out.cell 9
  have x10 := H2.out.cell 10
  have x11 := H2.out.cell 11
  simp only [List.getElem?_cons_zero, List.getElem?_cons_succ] at x0 x1 x2 x3 x4 x5 x6 x7 x8 x9 x10 x11
  go_wp2_with fail
  ((with_reducible refine (hcx _).mono ?_))
  rintro e W3 ⟨rfl, hb⟩
  have H3 := Lib.hid (H2.out.below hb)
  have HB3 := Lib.hid (bel_more HB2.out (Nat.le_refl _) hb)
  clear hb H2 HB2 hcx x0 x1 x2 x3 x4 x5 x6 x7 x8 x9 x10 x11
  simp only [It.cells]
  have hp := hpx _ HB3.out
  go_wp2_with fail
  ((with_reducible refine hp.mono ?_))
  intro e W4 hpost
  obtain ⟨q, er, rfl, hbt, hb, hres⟩ := hpost.told2
  clear hp hpx hpost
  have HQ := Lib.hid (Blk.new W4 32 (eo q))
  have bn := bel_new hb (.cells (eo q).toArray 32)
  have H4 := Lib.hid (H3.out.below bn)
  have HB4 := Lib.hid (bel_more HB3.out (Nat.le_refl _) bn)
  have HBT := Lib.hid ((hbt.below (bel_new (Below.refl _ _) (.cells (eo q).toArray 32))).more (show W4.heap.size ≤ (W4.alloc (.cells (eo q).toArray 32)).heap.size by simp))
  have HRES := Lib.hid hres
  clear hb bn hbt H3 HB3 hres
  obtain ⟨qcl, qty, qa, qn, qc, ql⟩ := q
  simp only [eo] at HQ H4 HB4 HBT ⊢
  go_upto_region 6 with fail
  revert HQ H4 HB4 HBT
  generalize World.alloc W4 _ = W5
  intro HQ H4 HB4 HBT
  obtain ⟨q1, hq1⟩ : ∃ q, q = W4.heap.size := ⟨_, rfl⟩
  rw [← hq1] at HQ ⊢
  clear hq1
  have hp := hrx _ HB4.out
  have x0 := H4.out.cell 0
  have x1 := H4.out.cell 1
  have x2 := H4.out.cell 2
  have x3 := H4.out.cell 3
  have x4 := H4.out.cell 4
  have x5 := H4.out.cell 5
  have x6 := H4.out.cell 6
  have x7 := H4.out.cell 7
  have x8 := H4.out.cell 8
  have x9 := H4.out.cell 9
  have x10 := H4.out.cell 10
  have x11 := H4.out.cell 11
  simp only [List.getElem?_cons_zero, List.getElem?_cons_succ] at x0 x1 x2 x3 x4 x5 x6 x7 x8 x9 x10 x11
  go_wp2_with fail
  ((with_reducible refine hp.mono ?_))
  intro e W6 hpost
  obtain ⟨p, er2, rfl, hbt, hb, hres⟩ := hpost
  clear hp hrx x0 x1 x2 x3 x4 x5 x6 x7 x8 x9 x10 x11
  obtain ⟨hee, hos⟩ := alike HRES.out hres
  subst hee
  have HOS := Lib.hid hos
  have HR := Lib.hid (Blk.new W6 38 (eo p))
  have bn := bel_new hb (.cells (eo p).toArray 38)
  have HQ6 := Lib.hid (HQ.out.below bn)
  have HBT6 := Lib.hid ((HBT.out.below bn).more bn.size)
  have HB6 := Lib.hid (bel_more HB4.out (Nat.le_refl _) bn)
  have HBR := Lib.hid ((hbt.below (bel_new (Below.refl _ _) (.cells (eo p).toArray 38))).more (show W6.heap.size ≤ (W6.alloc (.cells (eo p).toArray 38)).heap.size by simp))
  clear hb bn hbt HQ HBT HB4 H4 hres HRES hos
  obtain ⟨pcl, pty, pa, pn, pc, pl⟩ := p
  simp only [eo] at HR HQ6 HBT6 HB6 HBR ⊢
  go_upto_region 7 with fail
  revert HR HQ6 HBT6 HB6 HBR
  generalize World.alloc W6 _ = W8
  intro HR HQ6 HBT6 HB6 HBR
  obtain ⟨q2, hq2⟩ : ∃ q, q = W6.heap.size := ⟨_, rfl⟩
  rw [← hq2] at HR ⊢
  clear hq2
  go_wp2
  refine region_seq (fun W => Below W8.heap.size W8 W)
    [(0, true), (2, true), (1, false), (3, false), (4, true), (5, true), (6, true), (7, true), (8, true), (9, true)]
    (by kernel_rfl) (by kernel_rfl) (by kernel_rfl) (by kernel_rfl) (fun _ _ _ _ _ h => h) ⟨rfl, rfl, rfl, Nat.le_refl _, fun _ _ => rfl⟩ ?_
  repeat
    first
    | (refine seq_pure (v := ?_) rfl (by rfl) (fun W hW => ?_) ?_
       rotate_left
       · clear hW
         go_simp
         with_reducible rfl
       simp only [Act.put, List.setIfInBounds_toArray, List.set_cons_zero, List.set_cons_succ])
    | (refine seq_pure (v := ?_) rfl (by rfl) (fun W hW => ?_) ?_
       rotate_left
       · have a0 := (HQ6.out.below hW).cell 0
         have a1 := (HQ6.out.below hW).cell 1
         have a2 := (HQ6.out.below hW).cell 2
         simp only [List.getElem?_cons_zero, List.getElem?_cons_succ] at a0 a1 a2
         go_simp
         with_reducible rfl
       simp only [Act.put, List.setIfInBounds_toArray, List.set_cons_zero, List.set_cons_succ])
    | (refine seq_pure (v := ?_) rfl (by rfl) (fun W hW => ?_) ?_
       rotate_left
       · have a0 := (HR.out.below hW).cell 0
         have a1 := (HR.out.below hW).cell 1
         have a2 := (HR.out.below hW).cell 2
         simp only [List.getElem?_cons_zero, List.getElem?_cons_succ] at a0 a1 a2
         go_simp
         with_reducible rfl
       simp only [Act.put, List.setIfInBounds_toArray, List.set_cons_zero, List.set_cons_succ])
    | (refine seq_skip rfl (by rfl) ?_
       simp only [Act.put, List.setIfInBounds_toArray, List.set_cons_zero, List.set_cons_succ])
  refine seq_make rfl (by rfl) (fun K hK => ?_)
  go_simp
  ((with_reducible refine (oours_calls qcl qty qa qn qc _).mono ?_))
  rintro e V1 ⟨rfl, hb⟩
  have HS1 := Lib.hid (show Below W8.heap.size W8 V1 from below_of_drew hb)
  clear hb
  go_simp
  refine hK _ _ (fun W => Below W8.heap.size W8 W) (fun W h => h) HS1.out ?_
  clear hK K
  refine seq_make rfl (by rfl) (fun K hK => ?_)
  go_simp
  have hc := same7_calls ⟨qcl, qty, qa, qn, qc, ql⟩ ⟨pcl, pty, pa, pn, pc, pl⟩ V1 ((HBT6.out.below HS1.out).more HS1.out.size) ((HBR.out.below HS1.out).more HS1.out.size)
  rw [HOS.out] at hc
  simp only [eo] at hc
  ((with_reducible refine hc.mono ?_))
  rintro e V2 ⟨rfl, hb⟩
  have HS2 := Lib.hid (show Below W8.heap.size W8 V2 from bel_more HS1.out (Nat.le_refl _) hb)
  clear hb hc
  go_simp
  refine hK _ _ (fun W => Below W8.heap.size W8 W) (fun W h => h) HS2.out ?_
  clear hK K
  repeat
    first
    | (refine seq_pure (v := ?_) rfl (by rfl) (fun W hW => ?_) ?_
       rotate_left
       · clear hW
         go_simp
         with_reducible rfl
       simp only [Act.put, List.setIfInBounds_toArray, List.set_cons_zero, List.set_cons_succ])
    | (refine seq_skip rfl (by rfl) ?_
       simp only [Act.put, List.setIfInBounds_toArray, List.set_cons_zero, List.set_cons_succ])
  refine seq_done ?_
  go_wp2
  go_ret
  exact ⟨by first | rfl | simp, bel_more HB6.out (Nat.le_refl _) HS2.out⟩
end Go.Proofs.Ytocogdcecnnnnaa
