/-
  Contract of the document's own Pack for layer 7. Condition: the item's list reads as numbers.
-/
import Derived.Test.YtocogdcecnnnnaaBodyV
import Derived.Test.YtocogdcecnnnnaaBodyUnlikeW
namespace Go.Proofs.Ytocogdcecnnnnaa
open Go.RowKit

/-- What the document's Pack answers, in one form. -/
def RPackPost (w : World) (x : PIt) (e : Ending) (w' : World) : Prop :=
  ∃ (q : Ob) (er : Int), e = .returned (.tuple #[.agg (eo q).toArray, .int .i64 er]) ∧ Bts w' w'.heap.size q.a q.n q.l ∧ Below w.heap.size w w' ∧ ((er = 0 ∧ pack x = some q.val) ∨ (er = 2 ∧ pack x = none ∧ q.val = (0, 0, [])))

set_option maxRecDepth 100000 in
set_option maxHeartbeats 3200000 in
theorem rpack_calls (x : It) (w : World) (h : Fine w w.heap.size x) :
    Calls Try.prog 11 #[.agg x.cells.toArray] w (RPackPost w x.val) := by
  have HX := Lib.hid h
  have hn1 := Blk.new (w.alloc (.cells x.cells.toArray 28)) 38 [.int .i64 0, .int .i64 0, .slice none 0 0]
  simp only [World.size_alloc] at hn1
  have H0 := Lib.hid ((Blk.new w 28 x.cells).alloc (.cells (([.int .i64 0, .int .i64 0, .slice none 0 0] : List Value).toArray) 38))
  have H1 := Lib.hid hn1
  have HB := Lib.hid (bel_new (bel_new (Below.refl w.heap.size w) (.cells x.cells.toArray 28)) (.cells (([.int .i64 0, .int .i64 0, .slice none 0 0] : List Value).toArray) 38))
  have hmy : ∀ W, Below w.heap.size w W → Calls Try.prog 22 #[.agg x.cells.toArray] W (SamePost W (mayB x.val)) := fun W hb => may_calls x W ((HX.out.below hb).more hb.size)
  have hby : ∀ W, Below w.heap.size w W → mayB x.val = true → Calls Try.prog 23 #[.agg x.cells.toArray] W (BytPost W (pcL (pcs x.val)) (knd x.cl)) := fun W hb hm => rbytes_calls x W ((HX.out.below hb).more hb.size) (by simp only [mayB, Bool.and_eq_true] at hm; exact hm.2)
  have hpk : mayB x.val = true → pack x.val = some (x.cl, knd x.cl, pcL (pcs x.val)) := fun hm => may_pack h.u h.any h.all h.non hm
  have hpn : mayB x.val = false → pack x.val = none := fun hm => by
    cases hp : pack x.val with
    | none => rfl
    | some o => rw [pack_may hp] at hm; cases hm
  have HPK := Lib.hid hpk
  have HPN := Lib.hid hpn
  clear hn1 h hpk hpn
  obtain ⟨xcl, xa, xb, xc, xu, xla, xln, xlc, xl, xbw, xsu, xho, xan, xal, xno⟩ := x
  simp only [It.cells, It.val] at H0 H1 HB hmy hby HPK HPN ⊢
  go_enter Try.func11, Try.ntmps11
  go_upto_region 1 with fail
  revert H0 H1 HB
  generalize World.alloc (World.alloc w _) _ = W1
  intro H0 H1 HB
  have hmc := hmy W1 HB.out
  have x0 := H0.out.cell 0
  have x1 := H0.out.cell 1
  have x2 := H0.out.cell 2
  have x3 := H0.out.cell 3
  have x4 := H0.out.cell 4
  have x5 := H0.out.cell 5
  have x6 := H0.out.cell 6
  have x7 := H0.out.cell 7
  have x8 := H0.out.cell 8
  have x9 := H0.out.cell 9
  have x10 := H0.out.cell 10
  have x11 := H0.out.cell 11
  simp only [List.getElem?_cons_zero, List.getElem?_cons_succ] at x0 x1 x2 x3 x4 x5 x6 x7 x8 x9 x10 x11
  go_wp2_with fail
  ((with_reducible refine hmc.mono ?_))
  rintro e W2 ⟨rfl, hb⟩
  have H02 := Lib.hid (H0.out.below hb)
  have H12 := Lib.hid (H1.out.below hb)
  have HB2 := Lib.hid (bel_more HB.out (Nat.le_refl _) hb)
  clear hb hmc hmy H0 H1 HB x0 x1 x2 x3 x4 x5 x6 x7 x8 x9 x10 x11
  cases hm : mayB ⟨xcl, xa, xb, xc, xu, xl, ⟨xbw, xsu, xho, xan, xal, xno⟩⟩ with
  | false =>
    have HP := Lib.hid (HPN.out hm)
    have r0 := H12.out.cell 0
    have r1 := H12.out.cell 1
    have r2 := H12.out.cell 2
    have g0 := H12.out.free 0
    have g1 := H12.out.free 1
    have g2 := H12.out.free 2
    simp only [List.getElem?_cons_zero, List.getElem?_cons_succ] at r0 r1 r2
    clear hm hby HPK HPN
    go_wp2
    clear r0 r1 r2 g0 g1 g2
    have HO := Lib.hid (obj_put HB2.out (by omega) H12.out (.int .i64 0) (.int .i64 0) (.slice none 0 0))
    revert HO
    generalize World.setCell (World.setCell (World.setCell W2 _ _) _ _) _ _ = W5
    intro HO
    have y0 := HO.out.1.cell 0
    have y1 := HO.out.1.cell 1
    have y2 := HO.out.1.cell 2
    simp only [List.getElem?_cons_zero, List.getElem?_cons_succ] at y0 y1 y2
    refine bodyPost_ret (v := .tuple #[.agg #[.int .i64 0, .int .i64 0, .slice none 0 0], .int .i64 2]) (by simp [results, Try.results11, go_sem, y0, y1, y2]) rfl ?_
    exact ⟨⟨0, 0, none, 0, 0, []⟩, 2, rfl, Bts.nil, HO.out.2.1, .inr ⟨rfl, HP.out, rfl⟩⟩
  | true =>
    have HP := Lib.hid (HPK.out hm)
    have hbc := hby W2 HB2.out hm
    clear hm hby HPK HPN
    have x0 := H02.out.cell 0
    have x1 := H02.out.cell 1
    have x2 := H02.out.cell 2
    have x3 := H02.out.cell 3
    have x4 := H02.out.cell 4
    have x5 := H02.out.cell 5
    have x6 := H02.out.cell 6
    have x7 := H02.out.cell 7
    have x8 := H02.out.cell 8
    have x9 := H02.out.cell 9
    have x10 := H02.out.cell 10
    have x11 := H02.out.cell 11
    simp only [List.getElem?_cons_zero, List.getElem?_cons_succ] at x0 x1 x2 x3 x4 x5 x6 x7 x8 x9 x10 x11
    generalize pcL (pcs ⟨xcl, xa, xb, xc, xu, xl, ⟨xbw, xsu, xho, xan, xal, xno⟩⟩) = bl at *
    obtain ⟨kk, hkk⟩ : ∃ kk, kk = knd xcl := ⟨_, rfl⟩
    rw [← hkk] at hbc HP
    clear hkk
    go_wp2_with fail
    ((with_reducible refine hbc.mono ?_))
    rintro e W3 ⟨A, c, rfl, ha, hb⟩
    have H03 := Lib.hid (H02.out.below hb)
    have H13 := Lib.hid (H12.out.below hb)
    have HB3 := Lib.hid (bel_more HB2.out (Nat.le_refl _) hb)
    have HA := Lib.hid ha
    clear hb ha hbc H02 H12 HB2 x0 x1 x2 x3 x4 x5 x6 x7 x8 x9 x10 x11
    have x0 := H03.out.cell 0
    have r0 := H13.out.cell 0
    have r1 := H13.out.cell 1
    have r2 := H13.out.cell 2
    have g0 := H13.out.free 0
    have g1 := H13.out.free 1
    have g2 := H13.out.free 2
    simp only [List.getElem?_cons_zero, List.getElem?_cons_succ] at r0 r1 r2 x0
    go_wp2
    clear r0 r1 r2 g0 g1 g2 x0
    have HO := Lib.hid (obj_put HB3.out (by omega) H13.out (.int .i64 xcl) (.int .i64 kk) (.slice A bl.length c))
    revert HO
    generalize World.setCell (World.setCell (World.setCell W3 _ _) _ _) _ _ = W5
    intro HO
    have y0 := HO.out.1.cell 0
    have y1 := HO.out.1.cell 1
    have y2 := HO.out.1.cell 2
    simp only [List.getElem?_cons_zero, List.getElem?_cons_succ] at y0 y1 y2
    refine bodyPost_ret (v := .tuple #[.agg #[.int .i64 xcl, .int .i64 kk, .slice A bl.length c], .int .i64 0]) (by simp [results, Try.results11, go_sem, y0, y1, y2]) rfl ?_
    exact ⟨⟨xcl, kk, A, bl.length, c, bl⟩, 0, rfl, (HO.out.2.2 _ _ _ _ (by decide) HA.out).bts, HO.out.2.1, .inl ⟨rfl, HP.out⟩⟩
end Go.Proofs.Ytocogdcecnnnnaa
