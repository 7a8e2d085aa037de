/-
  The statement BodyBack, walked. Condition: the item's list reads as numbers, the object's body as bytes.
-/
import Derived.Test.YtocogdcecnnnnaaBodyUnlikeW
namespace Go.Proofs.Ytocogdcecnnnnaa
open Go.RowKit

theorem pack_fine {x : PIt} {o : Int × Int × List UInt8} (h : pack x = some o) : x.u < 18446744073709551616 ∧ x.w.any < 4294967296 ∧ x.w.all < 4294967296 ∧ x.w.non < 4294967296 := by
  obtain ⟨hk, ho, hx, _⟩ := pack_some.1 h
  have hu := congrArg PIt.u hx
  have hw := congrArg PIt.w hx
  rcases knd_cases hk with e | e | e | e | e | e | e | e | e | e | e | e | e | e | e
  · have hu' : x.u = 0 := by rw [← hu]; simp [mkI, e]
    have hw' : x.w = Wnt.zero := by rw [← hw]; simp [mkI, e]
    rw [hu', hw']
    exact ⟨by omega, by simp [Wnt.zero], by simp [Wnt.zero], by simp [Wnt.zero]⟩
  · have hu' : x.u = 0 := by rw [← hu]; simp [mkI, e]
    have hw' : x.w = Wnt.zero := by rw [← hw]; simp [mkI, e]
    rw [hu', hw']
    exact ⟨by omega, by simp [Wnt.zero], by simp [Wnt.zero], by simp [Wnt.zero]⟩
  · have q : Rq.ok ⟨4, 0, 4294967295, x.u⟩ := ho _ (by simp [rqs, e])
    have q2 := q.2.2
    simp only at q2
    have hw' : x.w = Wnt.zero := by rw [← hw]; simp [mkI, e]
    rw [hw']
    exact ⟨by omega, by simp [Wnt.zero], by simp [Wnt.zero], by simp [Wnt.zero]⟩
  · have hu' : x.u = 0 := by rw [← hu]; simp [mkI, e]
    have hw' : x.w = Wnt.zero := by rw [← hw]; simp [mkI, e]
    rw [hu', hw']
    exact ⟨by omega, by simp [Wnt.zero], by simp [Wnt.zero], by simp [Wnt.zero]⟩
  · have hu' : x.u = 0 := by rw [← hu]; simp [mkI, e]
    have hw' : x.w = Wnt.zero := by rw [← hw]; simp [mkI, e]
    rw [hu', hw']
    exact ⟨by omega, by simp [Wnt.zero], by simp [Wnt.zero], by simp [Wnt.zero]⟩
  · have q : Rq.ok ⟨8, 0, 18446744073709551615, x.u⟩ := ho _ (by simp [rqs, e])
    have q2 := q.2.2
    simp only at q2
    have hw' : x.w = Wnt.zero := by rw [← hw]; simp [mkI, e]
    rw [hw']
    exact ⟨by omega, by simp [Wnt.zero], by simp [Wnt.zero], by simp [Wnt.zero]⟩
  · have hu' : x.u = 0 := by rw [← hu]; simp [mkI, e]
    have hw' : x.w = Wnt.zero := by rw [← hw]; simp [mkI, e]
    rw [hu', hw']
    exact ⟨by omega, by simp [Wnt.zero], by simp [Wnt.zero], by simp [Wnt.zero]⟩
  · have hu' : x.u = 0 := by rw [← hu]; simp [mkI, e]
    have hw' : x.w = Wnt.zero := by rw [← hw]; simp [mkI, e]
    rw [hu', hw']
    exact ⟨by omega, by simp [Wnt.zero], by simp [Wnt.zero], by simp [Wnt.zero]⟩
  · have q : Rq.ok ⟨8, 0, 18446744073709551615, x.u⟩ := ho _ (by simp [rqs, e])
    have q2 := q.2.2
    simp only at q2
    have hw' : x.w = Wnt.zero := by rw [← hw]; simp [mkI, e]
    rw [hw']
    exact ⟨by omega, by simp [Wnt.zero], by simp [Wnt.zero], by simp [Wnt.zero]⟩
  · have hu' : x.u = 0 := by rw [← hu]; simp [mkI, e]
    have hw' : x.w = Wnt.zero := by rw [← hw]; simp [mkI, e]
    rw [hu', hw']
    exact ⟨by omega, by simp [Wnt.zero], by simp [Wnt.zero], by simp [Wnt.zero]⟩
  · have hu' : x.u = 0 := by rw [← hu]; simp [mkI, e]
    have hw' : x.w = Wnt.zero := by rw [← hw]; simp [mkI, e]
    rw [hu', hw']
    exact ⟨by omega, by simp [Wnt.zero], by simp [Wnt.zero], by simp [Wnt.zero]⟩
  · have hu' : x.u = 0 := by rw [← hu]; simp [mkI, e]
    have hw' : x.w = Wnt.zero := by rw [← hw]; simp [mkI, e]
    rw [hu', hw']
    exact ⟨by omega, by simp [Wnt.zero], by simp [Wnt.zero], by simp [Wnt.zero]⟩
  · have hu' : x.u = 0 := by rw [← hu]; simp [mkI, e]
    have hw' : x.w = Wnt.zero := by rw [← hw]; simp [mkI, e]
    rw [hu', hw']
    exact ⟨by omega, by simp [Wnt.zero], by simp [Wnt.zero], by simp [Wnt.zero]⟩
  · have q : Rq.ok ⟨4, 0, 4294967295, x.u⟩ := ho _ (by simp [rqs, e])
    have q2 := q.2.2
    simp only at q2
    have hw' : x.w = Wnt.zero := by rw [← hw]; simp [mkI, e]
    rw [hw']
    exact ⟨by omega, by simp [Wnt.zero], by simp [Wnt.zero], by simp [Wnt.zero]⟩
  · have q0 : Rq.ok ⟨4, 0, 4294967295, x.w.any⟩ := ho _ (by simp [rqs, e])
    have p0 := q0.2.2
    have q1 : Rq.ok ⟨4, 0, 4294967295, x.w.all⟩ := ho _ (by simp [rqs, e])
    have p1 := q1.2.2
    have q2 : Rq.ok ⟨4, 0, 4294967295, x.w.non⟩ := ho _ (by simp [rqs, e])
    have p2 := q2.2.2
    simp only at p0 p1 p2
    have hu' : x.u = 0 := by rw [← hu]; simp [mkI, e]
    exact ⟨by omega, by omega, by omega, by omega⟩

/-- What lies in memory all along: the arguments. -/
structure Args (w : World) (xs os : List Value) (W : World) : Prop where
  x : Blk W w.heap.size 28 xs
  o : Blk W (w.heap.size + 1) 38 os
  bel : Below w.heap.size w W
theorem Args.below {w W W' : World} {xs os : List Value} (h : Args w xs os W) (hb : Below W.heap.size W W') : Args w xs os W' :=
  ⟨h.x.below hb, h.o.below hb, bel_more h.bel (Nat.le_refl _) hb⟩
theorem fine_back {w : World} {B : Nat} {y : It} {o : Int × Int × List UInt8} (hp : pack y.val = some o) (hn : y.ln = y.l.length) (ha : AccI w B y.la y.lc y.l) : Fine w w.heap.size y := by
  obtain ⟨h1, h2, h3, h4⟩ := pack_fine hp
  refine ⟨by rw [hn]; exact AccR.row ha, ?_, h1, h2, h3, h4⟩
  have := AccR.cap ha
  omega

set_option maxRecDepth 100000 in
set_option maxHeartbeats 6400000 in
theorem bodyBack_walk (x : It) (o : Ob) (w : World) (hx : Fine w w.heap.size x) (ho : Bts w w.heap.size o.a o.n o.l) (hom : o.n ≤ maxLen) :
    Calls Try.prog 5 #[.agg x.cells.toArray, .agg (eo o).toArray] w (SamePost w true) := by
  have hn1 := Blk.new (w.alloc (.cells x.cells.toArray 28)) 38 (eo o)
  simp only [World.size_alloc] at hn1
  have HA := Lib.hid (show Args w x.cells (eo o) _ from ⟨(Blk.new w 28 x.cells).alloc (.cells (eo o).toArray 38), hn1, bel_new (bel_new (Below.refl w.heap.size w) (.cells x.cells.toArray 28)) (.cells (eo o).toArray 38)⟩)
  have HX := Lib.hid hx
  have HO := Lib.hid ho
  have hlx := hx.len
  have hcx := theirs7_calls x
  have hpx : ∀ W, Below w.heap.size w W → Calls Try.prog 9 #[.agg x.cells.toArray] W (PackPost W x.val) := fun W hb => pack_calls x W ((HX.out.below hb).more hb.size)
  clear hn1 hx ho
  unfold maxLen at hlx hom
  obtain ⟨xcl, xa, xb, xc, xu, xla, xln, xlc, xl, xbw, xsu, xho, xan, xal, xno⟩ := x
  obtain ⟨ocl, oty, oa, on, oc, ol⟩ := o
  simp only [It.cells, eo] at HA hcx hpx hlx hom HO ⊢
  go_enter Try.func5, Try.ntmps5
  go_upto_region 1 with fail
  revert HA
  generalize World.alloc (World.alloc w _) _ = W1
  intro HA
  have hal := alive7_calls W1
  go_wp2_with fail
  ((with_reducible refine hal.mono ?_))
  rintro e W2 ⟨rfl, hb⟩
  clear hal
  have HA2 := Lib.hid (HA.out.below hb)
  clear hb HA
  have x5 := HA2.out.x.cell 5
  have o2 := HA2.out.o.cell 2
  simp only [List.getElem?_cons_zero, List.getElem?_cons_succ] at x5 o2
  by_cases hgx : 6000 < xln
  · have g1 : (6000 : Int) < (xln : Int) := by omega
    go_wp2
    go_ret
    exact ⟨rfl, HA2.out.bel⟩
  by_cases hgy : 6000 < on
  · have g0 : ¬ (6000 : Int) < (xln : Int) := by omega
    have g1 : (6000 : Int) < (on : Int) := by omega
    go_wp2
    go_ret
    exact ⟨rfl, HA2.out.bel⟩
  have g0 : ¬ (6000 : Int) < (xln : Int) := by omega
  have g1 : ¬ (6000 : Int) < (on : Int) := by omega
  have x0 := HA2.out.x.cell 0
  have x1 := HA2.out.x.cell 1
  have x2 := HA2.out.x.cell 2
  have x3 := HA2.out.x.cell 3
  have x4 := HA2.out.x.cell 4
  have x5 := HA2.out.x.cell 5
  have x6 := HA2.out.x.cell 6
  have x7 := HA2.out.x.cell 7
  have x8 := HA2.out.x.cell 8
  have x9 := HA2.out.x.cell 9
  have x10 := HA2.out.x.cell 10
  have x11 := HA2.out.x.cell 11
  simp only [List.getElem?_cons_zero, List.getElem?_cons_succ] at x0 x1 x2 x3 x4 x5 x6 x7 x8 x9 x10 x11
  go_wp2_with fail
  ((with_reducible refine (hcx _).mono ?_))
  rintro e W3 ⟨rfl, hb⟩
  have HA3 := Lib.hid (HA2.out.below hb)
  clear hb HA2 o2 hcx x0 x1 x2 x3 x4 x5 x6 x7 x8 x9 x10 x11
  simp only [It.cells]
  have hp := hpx _ HA3.out.bel
  go_wp2_with fail
  ((with_reducible refine hp.mono ?_))
  intro e W4 hpost
  obtain ⟨q, er, rfl, hbt, hqn, hb, hres⟩ := hpost.told
  clear hp hpx hpost
  have HQ := Lib.hid (Blk.new W4 32 (eo q))
  have bn := bel_new hb (.cells (eo q).toArray 32)
  have HA4 := Lib.hid (HA3.out.below bn)
  have HBT := Lib.hid ((hbt.below (bel_new (Below.refl _ _) (.cells (eo q).toArray 32))).more (show W4.heap.size ≤ (W4.alloc (.cells (eo q).toArray 32)).heap.size by simp))
  have HRES := Lib.hid hres
  have HQN := Lib.hid hqn
  clear hb bn hbt hqn HA3 hres
  obtain ⟨qcl, qty, qa, qn, qc, ql⟩ := q
  simp only [eo] at HQ HA4 HBT HQN ⊢
  go_upto_region 6 with fail
  revert HQ HA4 HBT
  generalize World.alloc W4 _ = W5
  intro HQ HA4 HBT
  obtain ⟨q1, hq1⟩ : ∃ q, q = W4.heap.size := ⟨_, rfl⟩
  rw [← hq1] at HQ ⊢
  clear hq1
  go_upto_if 32 with fail
  go_cut [31] (fun _ W => Args w [.int .i64 xcl, .int .i64 xa, .int .i64 xb, .int .i64 xc, .int .u64 (xu : Int), .slice xla xln xlc, .int .u64 (xbw : Int), .int .i64 xsu, .int .i64 xho, .int .u32 (xan : Int), .int .u32 (xal : Int), .int .u32 (xno : Int)] [.int .i64 ocl, .int .i64 oty, .slice oa on oc] W)
  case first =>
    rcases HRES.out with ⟨rfl, hp1⟩ | ⟨rfl, hp1⟩
    · have hp1' : pack (It.val ⟨xcl, xa, xb, xc, xu, xla, xln, xlc, xl, ⟨xbw, xsu, xho, xan, xal, xno⟩⟩) = some (qcl, qty, ql) := hp1
      have hlen := pack_len hp1'
      simp only at hlen
      have HLN := Lib.hid hlen
      have HP := Lib.hid hp1'
      have hu := unpack_calls qcl qty qa qn qc ql W5 HBT.out (by rw [HQN.out]; omega)
      clear hp1 hp1' HRES hlen
      have a0 := HQ.out.cell 0
      have a1 := HQ.out.cell 1
      have a2 := HQ.out.cell 2
      simp only [List.getElem?_cons_zero, List.getElem?_cons_succ] at a0 a1 a2
      go_wp2_with fail
      ((with_reducible refine hu.mono ?_))
      intro e W6 hpost
      obtain ⟨y, hy, hyn, rfl, hacc, hb⟩ := hpost.yes (back_one HP.out)
      clear hu hpost a0 a1 a2
      have HY := Lib.hid (Blk.new W6 36 y.cells)
      have bn := bel_new hb (.cells y.cells.toArray 36)
      have HA6 := Lib.hid (HA4.out.below bn)
      have HQ6 := Lib.hid (HQ.out.below bn)
      have HYA := Lib.hid (AccR.alloc hacc (.cells y.cells.toArray 36))
      have HYN := Lib.hid hyn
      have HLOW := Lib.hid HA4.out.bel.size
      have HYV := Lib.hid hy
      clear hb bn hacc HA4 HQ HBT hyn hy
      have hoy := ours7_calls y
      have hsm : ∀ W V, AccI V w.heap.size y.la y.lc y.l → Below V.heap.size V W → Below w.heap.size w W → Calls Try.prog 17 #[.agg y.cells.toArray, .agg (It.cells ⟨xcl, xa, xb, xc, xu, xla, xln, xlc, xl, ⟨xbw, xsu, xho, xan, xal, xno⟩⟩).toArray] W (SamePost W (y.val.same (It.val ⟨xcl, xa, xb, xc, xu, xla, xln, xlc, xl, ⟨xbw, xsu, xho, xan, xal, xno⟩⟩))) := fun W V ha hb hb2 =>
        rsame7_calls y ⟨xcl, xa, xb, xc, xu, xla, xln, xlc, xl, ⟨xbw, xsu, xho, xan, xal, xno⟩⟩ V.heap.size w.heap.size W ((show Row ei V V.heap.size y.la y.ln y.l by rw [HYN.out]; exact AccR.row ha).below hb) (HX.out.row.below hb2) hb.size hb2.size (by have := AccR.cap ha; have := HYN.out; omega) HX.out.len
      rw [(PIt.same_iff _ _).2 HYV.out] at hsm
      obtain ⟨ycl, ya, yb, yc, yu, yla, yln, ylc, yl, ybw, ysu, yho, yan, yal, yno⟩ := y
      simp only [It.cells] at HY HA6 HQ6 HYA HYN hoy hsm ⊢
      go_upto_region 8 with fail
      revert HY HA6 HQ6 HYA
      generalize World.alloc W6 _ = W7
      intro HY HA6 HQ6 HYA
      obtain ⟨q2, hq2⟩ : ∃ q, q = W6.heap.size := ⟨_, rfl⟩
      rw [← hq2] at HY ⊢
      clear hq2
      have t1 : ((qn : Int).tmod 4) = 0 := by have := HLN.out.1; have := HQN.out; rw [Int.tmod_eq_emod_of_nonneg (by omega)]; omega
      have t2 : ((qn : Int) % 4) = 0 := by have := HLN.out.1; have := HQN.out; omega
      have t3 : (qn % 4) = 0 := by have := HLN.out.1; have := HQN.out; omega
      go_wp2
      refine region_seq (fun W => Below W7.heap.size W7 W)
        [(0, true), (1, true), (2, true), (3, true), (5, true), (4, false), (6, false), (7, true), (8, true), (9, true), (10, true), (11, true), (12, true), (13, true), (14, true), (15, true)]
        (by kernel_rfl) (by kernel_rfl) (by kernel_rfl) (by kernel_rfl) (fun _ _ _ _ _ h => h) ⟨rfl, rfl, rfl, Nat.le_refl _, fun _ _ => rfl⟩ ?_
      repeat
        first
        | (refine seq_pure (v := ?_) rfl (by rfl) (fun W hW => ?_) ?_
           rotate_left
           · clear hW
             go_simp
             with_reducible rfl
           simp only [Act.put, List.setIfInBounds_toArray, List.set_cons_zero, List.set_cons_succ])
        | (refine seq_pure (v := ?_) rfl (by rfl) (fun W hW => ?_) ?_
           rotate_left
           · have a0 := (HQ6.out.below hW).cell 0
             have a1 := (HQ6.out.below hW).cell 1
             have a2 := (HQ6.out.below hW).cell 2
             simp only [List.getElem?_cons_zero, List.getElem?_cons_succ] at a0 a1 a2
             go_simp
             with_reducible rfl
           simp only [Act.put, List.setIfInBounds_toArray, List.set_cons_zero, List.set_cons_succ])
        | (refine seq_pure (v := ?_) rfl (by rfl) (fun W hW => ?_) ?_
           rotate_left
           · have a0 := (HY.out.below hW).cell 0
             have a1 := (HY.out.below hW).cell 1
             have a2 := (HY.out.below hW).cell 2
             have a3 := (HY.out.below hW).cell 3
             have a4 := (HY.out.below hW).cell 4
             have a5 := (HY.out.below hW).cell 5
             have a6 := (HY.out.below hW).cell 6
             have a7 := (HY.out.below hW).cell 7
             have a8 := (HY.out.below hW).cell 8
             have a9 := (HY.out.below hW).cell 9
             have a10 := (HY.out.below hW).cell 10
             have a11 := (HY.out.below hW).cell 11
             simp only [List.getElem?_cons_zero, List.getElem?_cons_succ] at a0 a1 a2 a3 a4 a5 a6 a7 a8 a9 a10 a11
             go_simp
             with_reducible rfl
           simp only [Act.put, List.setIfInBounds_toArray, List.set_cons_zero, List.set_cons_succ])
        | (refine seq_pure (v := ?_) rfl (by rfl) (fun W hW => ?_) ?_
           rotate_left
           · have a0 := (HA6.out.x.below hW).cell 0
             have a1 := (HA6.out.x.below hW).cell 1
             have a2 := (HA6.out.x.below hW).cell 2
             have a3 := (HA6.out.x.below hW).cell 3
             have a4 := (HA6.out.x.below hW).cell 4
             have a5 := (HA6.out.x.below hW).cell 5
             have a6 := (HA6.out.x.below hW).cell 6
             have a7 := (HA6.out.x.below hW).cell 7
             have a8 := (HA6.out.x.below hW).cell 8
             have a9 := (HA6.out.x.below hW).cell 9
             have a10 := (HA6.out.x.below hW).cell 10
             have a11 := (HA6.out.x.below hW).cell 11
             simp only [List.getElem?_cons_zero, List.getElem?_cons_succ] at a0 a1 a2 a3 a4 a5 a6 a7 a8 a9 a10 a11
             go_simp
             with_reducible rfl
           simp only [Act.put, List.setIfInBounds_toArray, List.set_cons_zero, List.set_cons_succ])
        | (refine seq_skip rfl (by rfl) ?_
           simp only [Act.put, List.setIfInBounds_toArray, List.set_cons_zero, List.set_cons_succ])
      refine seq_make rfl (by rfl) (fun K hK => ?_)
      go_simp
      ((with_reducible refine (hoy _).mono ?_))
      rintro e V1 ⟨rfl, hb⟩
      have HS1 := Lib.hid (show Below W7.heap.size W7 V1 from below_of_drew hb)
      clear hb
      simp only [It.cells]
      go_simp
      refine hK _ _ (fun W => Below W7.heap.size W7 W) (fun W h => h) HS1.out ?_
      clear hK K
      refine seq_make rfl (by rfl) (fun K hK => ?_)
      go_simp
      have hc := hsm V1 W7 (AccR.lower HYA.out HLOW.out) HS1.out (bel_more HA6.out.bel (Nat.le_refl _) HS1.out)
      ((with_reducible refine hc.mono ?_))
      rintro e V2 ⟨rfl, hb⟩
      have HS2 := Lib.hid (show Below W7.heap.size W7 V2 from bel_more HS1.out (Nat.le_refl _) hb)
      clear hb hc
      go_simp
      refine hK _ _ (fun W => Below W7.heap.size W7 W) (fun W h => h) HS2.out ?_
      clear hK K
      repeat
        first
        | (refine seq_pure (v := ?_) rfl (by rfl) (fun W hW => ?_) ?_
           rotate_left
           · clear hW
             go_simp
             with_reducible rfl
           simp only [Act.put, List.setIfInBounds_toArray, List.set_cons_zero, List.set_cons_succ])
        | (refine seq_pure (v := ?_) rfl (by rfl) (fun W hW => ?_) ?_
           rotate_left
           · have a0 := (HQ6.out.below hW).cell 0
             have a1 := (HQ6.out.below hW).cell 1
             have a2 := (HQ6.out.below hW).cell 2
             simp only [List.getElem?_cons_zero, List.getElem?_cons_succ] at a0 a1 a2
             go_simp
             with_reducible rfl
           simp only [Act.put, List.setIfInBounds_toArray, List.set_cons_zero, List.set_cons_succ])
        | (refine seq_pure (v := ?_) rfl (by rfl) (fun W hW => ?_) ?_
           rotate_left
           · have a0 := (HY.out.below hW).cell 0
             have a1 := (HY.out.below hW).cell 1
             have a2 := (HY.out.below hW).cell 2
             have a3 := (HY.out.below hW).cell 3
             have a4 := (HY.out.below hW).cell 4
             have a5 := (HY.out.below hW).cell 5
             have a6 := (HY.out.below hW).cell 6
             have a7 := (HY.out.below hW).cell 7
             have a8 := (HY.out.below hW).cell 8
             have a9 := (HY.out.below hW).cell 9
             have a10 := (HY.out.below hW).cell 10
             have a11 := (HY.out.below hW).cell 11
             simp only [List.getElem?_cons_zero, List.getElem?_cons_succ] at a0 a1 a2 a3 a4 a5 a6 a7 a8 a9 a10 a11
             go_simp
             with_reducible rfl
           simp only [Act.put, List.setIfInBounds_toArray, List.set_cons_zero, List.set_cons_succ])
        | (refine seq_pure (v := ?_) rfl (by rfl) (fun W hW => ?_) ?_
           rotate_left
           · have a0 := (HA6.out.x.below hW).cell 0
             have a1 := (HA6.out.x.below hW).cell 1
             have a2 := (HA6.out.x.below hW).cell 2
             have a3 := (HA6.out.x.below hW).cell 3
             have a4 := (HA6.out.x.below hW).cell 4
             have a5 := (HA6.out.x.below hW).cell 5
             have a6 := (HA6.out.x.below hW).cell 6
             have a7 := (HA6.out.x.below hW).cell 7
             have a8 := (HA6.out.x.below hW).cell 8
             have a9 := (HA6.out.x.below hW).cell 9
             have a10 := (HA6.out.x.below hW).cell 10
             have a11 := (HA6.out.x.below hW).cell 11
             simp only [List.getElem?_cons_zero, List.getElem?_cons_succ] at a0 a1 a2 a3 a4 a5 a6 a7 a8 a9 a10 a11
             go_simp
             with_reducible rfl
           simp only [Act.put, List.setIfInBounds_toArray, List.set_cons_zero, List.set_cons_succ])
        | (refine seq_skip rfl (by rfl) ?_
           simp only [Act.put, List.setIfInBounds_toArray, List.set_cons_zero, List.set_cons_succ])
      refine seq_done ?_
      go_wp2
      go_meet
      exact HA6.out.below HS2.out
    · clear hp1 HRES
      go_wp2
      go_meet
      exact HA4.out
  case rest =>
    have HA5 := Lib.hid hcut
    clear hcut HA4 HQ HBT HRES HQN
    have b0 := HA5.out.o.cell 0
    have b1 := HA5.out.o.cell 1
    have b2 := HA5.out.o.cell 2
    simp only [List.getElem?_cons_zero, List.getElem?_cons_succ] at b0 b1 b2
    have hot := otheirs_calls ocl oty oa on oc
    go_wp2_with fail
    ((with_reducible refine (hot _).mono ?_))
    rintro e W6 ⟨rfl, hb⟩
    have HA6 := Lib.hid (HA5.out.below hb)
    clear hb hot b0 b1 b2 HA5
    have hu := unpack_calls ocl oty oa on oc ol W6 ((HO.out.below HA6.out.bel).more HA6.out.bel.size) (by omega)
    go_wp2_with fail
    ((with_reducible refine hu.mono ?_))
    intro e W7 hpost
    clear hu
    cases hun : unpack (ocl, oty, ol) with
    | none =>
      obtain ⟨rfl, hb⟩ := hpost.no hun
      have HB7 := Lib.hid (bel_new (bel_more HA6.out.bel (Nat.le_refl _) hb) (.cells #[.int .i64 0, .int .i64 0, .int .i64 0, .int .i64 0, .int .u64 0, .slice none 0 0, .int .u64 0, .int .i64 0, .int .i64 0, .int .u32 0, .int .u32 0, .int .u32 0] 36))
      clear hb hpost hun
      go_wp2
      go_ret
      exact ⟨rfl, HB7.out⟩
    | some xx =>
      obtain ⟨y, hy, hyn, rfl, hacc, hb⟩ := hpost.yes hun
      have hpk : pack y.val = some (ocl, oty, ol) := by rw [hy]; exact back_two hun
      have hfy := fine_back hpk hyn hacc
      have HPK := Lib.hid hpk
      have HY := Lib.hid (Blk.new W7 36 y.cells)
      have bn := bel_new hb (.cells y.cells.toArray 36)
      have HA8 := Lib.hid (HA6.out.below bn)
      have HFY := Lib.hid (hfy.up (bel_new (Below.refl _ _) (.cells y.cells.toArray 36)))
      clear hb bn hacc HA6 hyn hy hun hpost hfy hpk
      have hpc := pack_calls y
      obtain ⟨ycl, ya, yb, yc, yu, yla, yln, ylc, yl, ybw, ysu, yho, yan, yal, yno⟩ := y
      simp only [It.cells] at HY HA8 HFY hpc ⊢
      go_upto_region 11 with fail
      revert HY HA8 HFY
      generalize World.alloc W7 _ = W8
      intro HY HA8 HFY
      obtain ⟨q2, hq2⟩ : ∃ q, q = W7.heap.size := ⟨_, rfl⟩
      rw [← hq2] at HY ⊢
      clear hq2
      have hp := hpc W8 HFY.out
      have y0 := HY.out.cell 0
      have y1 := HY.out.cell 1
      have y2 := HY.out.cell 2
      have y3 := HY.out.cell 3
      have y4 := HY.out.cell 4
      have y5 := HY.out.cell 5
      have y6 := HY.out.cell 6
      have y7 := HY.out.cell 7
      have y8 := HY.out.cell 8
      have y9 := HY.out.cell 9
      have y10 := HY.out.cell 10
      have y11 := HY.out.cell 11
      simp only [List.getElem?_cons_zero, List.getElem?_cons_succ] at y0 y1 y2 y3 y4 y5 y6 y7 y8 y9 y10 y11
      go_wp2_with fail
      ((with_reducible refine hp.mono ?_))
      intro e W9 hpost
      obtain ⟨A, c, rfl, ha, hb⟩ := hpost.yes HPK.out
      clear hp hpc hpost y0 y1 y2 y3 y4 y5 y6 y7 y8 y9 y10 y11
      simp only
      have HQ := Lib.hid (Blk.new W9 32 [.int .i64 ocl, .int .i64 oty, .slice A ol.length c])
      have bn := bel_new hb (.cells (([.int .i64 ocl, .int .i64 oty, .slice A ol.length c] : List Value).toArray) 32)
      have HA9 := Lib.hid (HA8.out.below bn)
      have HBT := (ha.alloc (.cells (([.int .i64 ocl, .int .i64 oty, .slice A ol.length c] : List Value).toArray) 32)).bts
      clear hb bn ha HA8 HY HFY HPK
      go_upto_region 13 with fail
      revert HQ HA9 HBT
      generalize World.alloc W9 _ = W10
      intro HQ HA9 HBT
      obtain ⟨q3, hq3⟩ : ∃ q, q = W9.heap.size := ⟨_, rfl⟩
      rw [← hq3] at HQ ⊢
      clear hq3
      have HBT' := Lib.hid HBT
      clear HBT
      have hoc := oours_calls ocl oty A ol.length c
      go_wp2
      refine region_seq (fun W => Below W10.heap.size W10 W)
        [(0, true), (1, true), (2, true), (3, true), (5, true), (4, false), (6, false), (7, true), (8, true)]
        (by kernel_rfl) (by kernel_rfl) (by kernel_rfl) (by kernel_rfl) (fun _ _ _ _ _ h => h) ⟨rfl, rfl, rfl, Nat.le_refl _, fun _ _ => rfl⟩ ?_
      repeat
        first
        | (refine seq_pure (v := ?_) rfl (by rfl) (fun W hW => ?_) ?_
           rotate_left
           · clear hW
             go_simp
             with_reducible rfl
           simp only [Act.put, List.setIfInBounds_toArray, List.set_cons_zero, List.set_cons_succ])
        | (refine seq_pure (v := ?_) rfl (by rfl) (fun W hW => ?_) ?_
           rotate_left
           · have a0 := (HQ.out.below hW).cell 0
             have a1 := (HQ.out.below hW).cell 1
             have a2 := (HQ.out.below hW).cell 2
             simp only [List.getElem?_cons_zero, List.getElem?_cons_succ] at a0 a1 a2
             go_simp
             with_reducible rfl
           simp only [Act.put, List.setIfInBounds_toArray, List.set_cons_zero, List.set_cons_succ])
        | (refine seq_pure (v := ?_) rfl (by rfl) (fun W hW => ?_) ?_
           rotate_left
           · have a0 := (HA9.out.o.below hW).cell 0
             have a1 := (HA9.out.o.below hW).cell 1
             have a2 := (HA9.out.o.below hW).cell 2
             simp only [List.getElem?_cons_zero, List.getElem?_cons_succ] at a0 a1 a2
             go_simp
             with_reducible rfl
           simp only [Act.put, List.setIfInBounds_toArray, List.set_cons_zero, List.set_cons_succ])
        | (refine seq_skip rfl (by rfl) ?_
           simp only [Act.put, List.setIfInBounds_toArray, List.set_cons_zero, List.set_cons_succ])
      refine seq_make rfl (by rfl) (fun K hK => ?_)
      go_simp
      ((with_reducible refine (hoc _).mono ?_))
      rintro e V1 ⟨rfl, hb⟩
      have HS1 := Lib.hid (show Below W10.heap.size W10 V1 from below_of_drew hb)
      clear hb
      go_simp
      refine hK _ _ (fun W => Below W10.heap.size W10 W) (fun W h => h) HS1.out ?_
      clear hK K
      refine seq_make rfl (by rfl) (fun K hK => ?_)
      go_simp
      have hbo := bel_more HA9.out.bel (Nat.le_refl _) HS1.out
      have hc := same7_calls ⟨ocl, oty, A, ol.length, c, ol⟩ ⟨ocl, oty, oa, on, oc, ol⟩ V1 ((HBT'.out.below HS1.out).more HS1.out.size) ((HO.out.below hbo).more hbo.size)
      simp only [eo, Ob.val] at hc
      rw [(osame_iff _ _).2 rfl] at hc
      ((with_reducible refine hc.mono ?_))
      rintro e V2 ⟨rfl, hb⟩
      have HS2 := Lib.hid (show Below W10.heap.size W10 V2 from bel_more HS1.out (Nat.le_refl _) hb)
      clear hb hc hbo
      go_simp
      refine hK _ _ (fun W => Below W10.heap.size W10 W) (fun W h => h) HS2.out ?_
      clear hK K
      repeat
        first
        | (refine seq_pure (v := ?_) rfl (by rfl) (fun W hW => ?_) ?_
           rotate_left
           · clear hW
             go_simp
             with_reducible rfl
           simp only [Act.put, List.setIfInBounds_toArray, List.set_cons_zero, List.set_cons_succ])
        | (refine seq_pure (v := ?_) rfl (by rfl) (fun W hW => ?_) ?_
           rotate_left
           · have a0 := (HQ.out.below hW).cell 0
             have a1 := (HQ.out.below hW).cell 1
             have a2 := (HQ.out.below hW).cell 2
             simp only [List.getElem?_cons_zero, List.getElem?_cons_succ] at a0 a1 a2
             go_simp
             with_reducible rfl
           simp only [Act.put, List.setIfInBounds_toArray, List.set_cons_zero, List.set_cons_succ])
        | (refine seq_pure (v := ?_) rfl (by rfl) (fun W hW => ?_) ?_
           rotate_left
           · have a0 := (HA9.out.o.below hW).cell 0
             have a1 := (HA9.out.o.below hW).cell 1
             have a2 := (HA9.out.o.below hW).cell 2
             simp only [List.getElem?_cons_zero, List.getElem?_cons_succ] at a0 a1 a2
             go_simp
             with_reducible rfl
           simp only [Act.put, List.setIfInBounds_toArray, List.set_cons_zero, List.set_cons_succ])
        | (refine seq_skip rfl (by rfl) ?_
           simp only [Act.put, List.setIfInBounds_toArray, List.set_cons_zero, List.set_cons_succ])
      refine seq_done ?_
      go_wp2
      go_ret
      exact ⟨rfl, bel_more HA9.out.bel (Nat.le_refl _) HS2.out⟩
end Go.Proofs.Ytocogdcecnnnnaa
