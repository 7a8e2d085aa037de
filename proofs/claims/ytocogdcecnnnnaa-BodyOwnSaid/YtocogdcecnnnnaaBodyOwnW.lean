/-
  The statement BodyOwn, walked. Condition: the item's list reads as numbers.
-/
import Derived.Test.YtocogdcecnnnnaaBodyBackW
namespace Go.Proofs.Ytocogdcecnnnnaa
open Go.RowKit

theorem acci_set {w : World} {base c g : Nat} {l : List Int} (h : AccI w base (some ⟨g, 0, none⟩) c l) (i : Nat) (x : Int) : AccI (w.setCell ⟨g, i, none⟩ (.int .i64 x)) base (some ⟨g, 0, none⟩) c (l.set i x) := by
  unfold AccI AccR at h ⊢
  rw [ei_flat] at h ⊢
  rw [List.length_set, List.map_set]
  exact (World.ownsRow.stored h i (.int .i64 x)).1
theorem acci_cell {w : World} {base c g : Nat} {l : List Int} (h : AccI w base (some ⟨g, 0, none⟩) c l) (i : Nat) (hi : i < l.length) : w.cell? ⟨g, i, none⟩ = some (.int .i64 l[i]) := by
  unfold AccI AccR at h
  rw [ei_flat] at h
  rw [World.ownsRow.cellAt h i (by omega)]; simp [hi]
theorem acci_free {w : World} {base c g : Nat} {l : List Int} (h : AccI w base (some ⟨g, 0, none⟩) c l) (i : Nat) : w.frozen? ⟨g, i, none⟩ = false := World.ownsRow.frozenAt h i
theorem acci_some {w : World} {base c : Nat} {A : Option Addr} {l : List Int} (h : AccI w base A c l) (h0 : 0 < l.length) : ∃ g, A = some ⟨g, 0, none⟩ ∧ base ≤ g := by
  rcases h.2 with ⟨_, hn⟩ | ⟨g, cap, cur, hv, hg, _⟩
  · omega
  · injection hv with e; exact ⟨g, e, hg⟩

/-- What lies in memory while what was answered is written over. -/
structure OwnSt (w : World) (xs os ys : List Value) (q1 q2 : Nat) (A : Option Addr) (c : Nat) (ol : List UInt8) (ya : Option Addr) (yc : Nat) (yl : List Int) (W : World) : Prop where
  x : Blk W w.heap.size 28 xs
  o : Blk W q1 32 os
  y : Blk W q2 36 ys
  acc : Acc W w.heap.size A c ol
  ints : AccI W w.heap.size ya yc yl
  bel : Below w.heap.size w W
section
variable {w W : World} {xs os ys : List Value} {q1 q2 : Nat} {A : Option Addr} {c : Nat} {ol : List UInt8} {ya : Option Addr} {yc : Nat} {yl : List Int}
theorem OwnSt.seti {g : Nat} (h : OwnSt w xs os ys q1 q2 A c ol (some ⟨g, 0, none⟩) yc yl W) (i : Nat) (v : Int) : OwnSt w xs os ys q1 q2 A c ol (some ⟨g, 0, none⟩) yc (yl.set i v) (W.setCell ⟨g, i, none⟩ (.int .i64 v)) := by
  have ht : Typ W g 3 := accr_typ h.ints rfl
  refine ⟨h.x.other (fun e => typ_ne ht h.x.typ (by decide) e) _, h.o.other (fun e => typ_ne ht h.o.typ (by decide) e) _, h.y.other (fun e => typ_ne ht h.y.typ (by decide) e) _, h.acc.kept (upd_set_p _ _ _ _) ?_, acci_set h.ints i v, h.bel.setCell (p := ⟨g, i, none⟩) (AccR.ge h.ints rfl).1 _⟩
  cases hk : blk A with
  | none => exact .inl rfl
  | some k => exact .inr (fun e => typ_ne (h.acc.typ hk) ht (by decide) (by injection e))
theorem OwnSt.setb {g : Nat} (h : OwnSt w xs os ys q1 q2 (some ⟨g, 0, none⟩) c ol ya yc yl W) (i : Nat) (v : UInt8) : OwnSt w xs os ys q1 q2 (some ⟨g, 0, none⟩) c (ol.set i v) ya yc yl (W.setCell ⟨g, i, none⟩ (.int .u8 (v.toNat : Int))) := by
  have ht : Typ W g 5 := h.acc.typ rfl
  exact ⟨h.x.other (fun e => typ_ne ht h.x.typ (by decide) e) _, h.o.other (fun e => typ_ne ht h.o.typ (by decide) e) _, h.y.other (fun e => typ_ne ht h.y.typ (by decide) e) _, (h.acc.set_ i v).1, AccR.kept h.ints (upd_set_p _ _ _ _) (fun k hk e => typ_ne (accr_typ h.ints hk) ht (by decide) (by injection e with e; exact e.symm)), h.bel.setCell (p := ⟨g, i, none⟩) (h.acc.ge rfl).1 _⟩
end

set_option maxRecDepth 100000 in
set_option maxHeartbeats 6400000 in
theorem bodyOwn_walk (x : It) (w : World) (hx : Fine w w.heap.size x) :
    Calls Try.prog 7 #[.agg x.cells.toArray] w (SamePost w true) := by
  have H0 := Lib.hid (Blk.new w 28 x.cells)
  have HB := Lib.hid (bel_new (Below.refl w.heap.size w) (.cells x.cells.toArray 28))
  have HX := Lib.hid hx
  have hlx := hx.len
  have hcx := theirs7_calls x
  have hpx : ∀ W, Below w.heap.size w W → Calls Try.prog 9 #[.agg x.cells.toArray] W (PackPost W x.val) := fun W hb => pack_calls x W ((HX.out.below hb).more hb.size)
  clear hx
  unfold maxLen at hlx
  obtain ⟨xcl, xa, xb, xc, xu, xla, xln, xlc, xl, xbw, xsu, xho, xan, xal, xno⟩ := x
  simp only [It.cells] at H0 HB hcx hpx hlx ⊢
  go_enter Try.func7, Try.ntmps7
  go_upto_region 1 with fail
  revert H0 HB
  generalize World.alloc w _ = W1
  intro H0 HB
  have hal := alive7_calls W1
  go_wp2_with fail
  ((with_reducible refine hal.mono ?_))
  rintro e W2 ⟨rfl, hb⟩
  clear hal
  have H2 := Lib.hid (H0.out.below hb)
  have HB2 := Lib.hid (bel_more HB.out (Nat.le_refl _) hb)
  clear hb H0 HB
  have x5 := H2.out.cell 5
  simp only [List.getElem?_cons_zero, List.getElem?_cons_succ] at x5
  by_cases hgx : 6000 < xln
  · have g1 : (6000 : Int) < (xln : Int) := by omega
    go_wp2
    go_ret
    exact ⟨rfl, HB2.out⟩
  have g0 : ¬ (6000 : Int) < (xln : Int) := by omega
  have x0 := H2.out.cell 0
  have x1 := H2.out.cell 1
  have x2 := H2.out.cell 2
  have x3 := H2.out.cell 3
  have x4 := H2.out.cell 4
  have x5 := H2.out.cell 5
  have x6 := H2.out.cell 6
  have x7 := H2.out.cell 7
  have x8 := H2.out.cell 8
  have x9 := H2.out.cell 9
  have x10 := H2.out.cell 10
  have x11 := H2.out.cell 11
  simp only [List.getElem?_cons_zero, List.getElem?_cons_succ] at x0 x1 x2 x3 x4 x5 x6 x7 x8 x9 x10 x11
  go_wp2_with fail
  ((with_reducible refine (hcx _).mono ?_))
  rintro e W3 ⟨rfl, hb⟩
  have H3 := Lib.hid (H2.out.below hb)
  have HB3 := Lib.hid (bel_more HB2.out (Nat.le_refl _) hb)
  clear hb H2 HB2 x0 x1 x2 x3 x4 x5 x6 x7 x8 x9 x10 x11
  simp only [It.cells]
  have hp := hpx _ HB3.out
  go_wp2_with fail
  ((with_reducible refine hp.mono ?_))
  intro e W4 hpost
  clear hp
  cases hpk : pack (It.val ⟨xcl, xa, xb, xc, xu, xla, xln, xlc, xl, ⟨xbw, xsu, xho, xan, xal, xno⟩⟩) with
  | none =>
    obtain ⟨rfl, hb⟩ := hpost.no hpk
    have HB4 := Lib.hid (bel_new (bel_more HB3.out (Nat.le_refl _) hb) (.cells #[.int .i64 0, .int .i64 0, .slice none 0 0] 32))
    clear hb hpost hpk
    go_wp2
    go_ret
    exact ⟨rfl, HB4.out⟩
  | some o =>
    obtain ⟨ocl, oty, ol⟩ := o
    obtain ⟨A, c, rfl, ha, hb⟩ := hpost.yes hpk
    have hlen := pack_len hpk
    simp only [It.val] at hlen
    obtain ⟨_, hl2, hcl, _⟩ := hlen
    subst hcl
    have HPK := Lib.hid hpk
    clear hpost hpk
    simp only
    have HQ := Lib.hid (Blk.new W4 32 [.int .i64 ocl, .int .i64 oty, .slice A ol.length c])
    have bn := bel_new hb (.cells (([.int .i64 ocl, .int .i64 oty, .slice A ol.length c] : List Value).toArray) 32)
    have H4 := Lib.hid (H3.out.below bn)
    have HB4 := Lib.hid (bel_more HB3.out (Nat.le_refl _) bn)
    have HAC := Lib.hid ((ha.lower HB3.out.size).alloc (.cells (([.int .i64 ocl, .int .i64 oty, .slice A ol.length c] : List Value).toArray) 32))
    clear hb bn ha H3 HB3
    go_upto_region 6 with fail
    revert HQ H4 HB4 HAC
    generalize World.alloc W4 _ = W5
    intro HQ H4 HB4 HAC
    obtain ⟨q1, hq1⟩ : ∃ q, q = W4.heap.size := ⟨_, rfl⟩
    rw [← hq1] at HQ ⊢
    clear hq1
    have a0 := HQ.out.cell 0
    have a1 := HQ.out.cell 1
    have a2 := HQ.out.cell 2
    have x0 := H4.out.cell 0
    simp only [List.getElem?_cons_zero, List.getElem?_cons_succ] at a0 a1 a2 x0
    have hu := unpack_calls ocl oty A ol.length c ol W5 HAC.out.bts (by omega)
    go_wp2_with fail
    ((with_reducible refine hu.mono ?_))
    intro e W6 hpost
    obtain ⟨y, hy, hyn, rfl, hacc, hb⟩ := hpost.yes (back_one HPK.out)
    clear hu hpost a0 a1 a2 x0
    have HY := Lib.hid (Blk.new W6 36 y.cells)
    have bn := bel_new hb (.cells y.cells.toArray 36)
    have HST := Lib.hid (show OwnSt w [.int .i64 ocl, .int .i64 xa, .int .i64 xb, .int .i64 xc, .int .u64 (xu : Int), .slice xla xln xlc, .int .u64 (xbw : Int), .int .i64 xsu, .int .i64 xho, .int .u32 (xan : Int), .int .u32 (xal : Int), .int .u32 (xno : Int)] [.int .i64 ocl, .int .i64 oty, .slice A ol.length c] y.cells q1 W6.heap.size A c ol y.la y.lc y.l (W6.alloc (.cells y.cells.toArray 36)) from ⟨H4.out.below bn, HQ.out.below bn, HY.out, HAC.out.bel bn, AccR.lower (AccR.alloc hacc _) HB4.out.size, bel_more HB4.out (Nat.le_refl _) bn⟩)
    have HYN := Lib.hid hyn
    have hcap := AccR.cap hacc
    have HCP := Lib.hid (show y.l.length ≤ 9223372036854775807 by unfold maxLen at hcap; omega)
    clear hb bn hacc HQ H4 HB4 HAC hyn hy HY hcap
    obtain ⟨ycl, ya, yb, yc, yu, yla, yln, ylc, yl, ybw, ysu, yho, yan, yal, yno⟩ := y
    simp only [It.cells] at HST HYN HCP ⊢
    go_upto_region 11 with fail
    revert HST
    generalize World.alloc W6 _ = W7
    intro HST
    obtain ⟨q2, hq2⟩ : ∃ q, q = W6.heap.size := ⟨_, rfl⟩
    rw [← hq2] at HST ⊢
    clear hq2
    have y5 := HST.out.y.cell 5
    simp only [List.getElem?_cons_zero, List.getElem?_cons_succ] at y5
    have hcp : yln ≤ 9223372036854775807 := by have := HYN.out; have := HCP.out; omega
    go_wp2_with fail
    go_loopw [54] (fun t W => ∃ (j : Nat) (l : List Int), t = .int .i64 (j : Int) ∧ j ≤ yln ∧ l.length = yln ∧ OwnSt w [.int .i64 ocl, .int .i64 xa, .int .i64 xb, .int .i64 xc, .int .u64 (xu : Int), .slice xla xln xlc, .int .u64 (xbw : Int), .int .i64 xsu, .int .i64 xho, .int .u32 (xan : Int), .int .u32 (xal : Int), .int .u32 (xno : Int)] [.int .i64 ocl, .int .i64 oty, .slice A ol.length c] [.int .i64 ycl, .int .i64 ya, .int .i64 yb, .int .i64 yc, .int .u64 (yu : Int), .slice yla yln ylc, .int .u64 (ybw : Int), .int .i64 ysu, .int .i64 yho, .int .u32 (yan : Int), .int .u32 (yal : Int), .int .u32 (yno : Int)] q1 q2 A c ol yla ylc l W) (fun t _ => yln - (intOf t).toNat)
    case atStart => exact ⟨0, yl, rfl, Nat.zero_le _, HYN.out.symm, HST.out⟩
    case round =>
      obtain ⟨j, l, rfl, hj, hl, hst⟩ := hrel
      have HS := Lib.hid hst
      clear hst HST y5
      by_cases hlt : j < yln
      · obtain ⟨g, rfl, _⟩ := acci_some HS.out.ints (by omega)
        have c1 := HS.out.y.cell 5
        simp only [List.getElem?_cons_zero, List.getElem?_cons_succ] at c1
        obtain ⟨vv, c2⟩ : ∃ v : Int, wr.cell? ⟨g, j, none⟩ = some (.int .i64 v) := ⟨_, acci_cell HS.out.ints j (by omega)⟩
        have f2 := acci_free HS.out.ints j
        have HL := Lib.hid hl
        clear hl
        go_wp2
        exact ⟨⟨j + 1, l.set j 99, by go_num, by omega, by rw [List.length_set]; exact HL.out, HS.out.seti j 99⟩, by simp [intOf]; omega⟩
      · have hjn : j = yln := by omega
        subst hjn
        clear HYN hcp HCP hj hlt
        have o2 := HS.out.o.cell 2
        simp only [List.getElem?_cons_zero, List.getElem?_cons_succ] at o2
        go_wp2_with fail
        go_loopw [65] (fun t W => ∃ (j2 : Nat) (ob : List UInt8), t = .int .i64 (j2 : Int) ∧ j2 ≤ ol.length ∧ ob.length = ol.length ∧ OwnSt w [.int .i64 ocl, .int .i64 xa, .int .i64 xb, .int .i64 xc, .int .u64 (xu : Int), .slice xla xln xlc, .int .u64 (xbw : Int), .int .i64 xsu, .int .i64 xho, .int .u32 (xan : Int), .int .u32 (xal : Int), .int .u32 (xno : Int)] [.int .i64 ocl, .int .i64 oty, .slice A ol.length c] [.int .i64 ycl, .int .i64 ya, .int .i64 yb, .int .i64 yc, .int .u64 (yu : Int), .slice yla j ylc, .int .u64 (ybw : Int), .int .i64 ysu, .int .i64 yho, .int .u32 (yan : Int), .int .u32 (yal : Int), .int .u32 (yno : Int)] q1 q2 A c ob yla ylc l W) (fun t _ => ol.length - (intOf t).toNat)
        case atStart => exact ⟨0, ol, rfl, Nat.zero_le _, rfl, HS.out⟩
        case round =>
          obtain ⟨j2, ob, rfl, hj2, hob, hst⟩ := hrel
          have HS2 := Lib.hid hst
          clear hst HS o2
          by_cases hlt : j2 < ol.length
          · obtain ⟨g, rfl, _⟩ := Acc.some HS2.out.acc (by omega)
            have c1 := HS2.out.o.cell 2
            simp only [List.getElem?_cons_zero, List.getElem?_cons_succ] at c1
            obtain ⟨vv, c2⟩ : ∃ v : Int, wr.cell? ⟨g, j2, none⟩ = some (.int .u8 v) := ⟨_, HS2.out.acc.cell j2 (by omega)⟩
            have f2 := HS2.out.acc.free j2
            have HL := Lib.hid hob
            clear hob
            go_wp2
            exact ⟨⟨j2 + 1, ob.set j2 255, by go_num, by omega, by rw [List.length_set]; exact HL.out, HS2.out.setb j2 255⟩, by simp [intOf]; omega⟩
          · have hjn : j2 = ol.length := by omega
            have H8 := Lib.hid HS2.out.x
            have HB8 := Lib.hid HS2.out.bel
            rw [hjn]
            clear HS2 hjn hlt hj2 hob hl
            have x0 := H8.out.cell 0
            have x1 := H8.out.cell 1
            have x2 := H8.out.cell 2
            have x3 := H8.out.cell 3
            have x4 := H8.out.cell 4
            have x5 := H8.out.cell 5
            have x6 := H8.out.cell 6
            have x7 := H8.out.cell 7
            have x8 := H8.out.cell 8
            have x9 := H8.out.cell 9
            have x10 := H8.out.cell 10
            have x11 := H8.out.cell 11
            simp only [List.getElem?_cons_zero, List.getElem?_cons_succ] at x0 x1 x2 x3 x4 x5 x6 x7 x8 x9 x10 x11
            go_wp2_with fail
            ((with_reducible refine (hcx _).mono ?_))
            rintro e W8 ⟨rfl, hb⟩
            have H9 := Lib.hid (H8.out.below hb)
            have HB9 := Lib.hid (bel_more HB8.out (Nat.le_refl _) hb)
            clear hb hcx H8 HB8 x0 x1 x2 x3 x4 x5 x6 x7 x8 x9 x10 x11
            simp only [It.cells]
            have hp := hpx _ HB9.out
            go_wp2_with fail
            ((with_reducible refine hp.mono ?_))
            intro e W9 hpost
            obtain ⟨A3, c3, rfl, ha, hb⟩ := hpost.yes HPK.out
            clear hp hpost hpx
            simp only
            have HQ := Lib.hid (Blk.new W9 32 [.int .i64 ocl, .int .i64 oty, .slice A3 ol.length c3])
            have bn := bel_new hb (.cells (([.int .i64 ocl, .int .i64 oty, .slice A3 ol.length c3] : List Value).toArray) 32)
            have H10 := Lib.hid (H9.out.below bn)
            have HB10 := Lib.hid (bel_more HB9.out (Nat.le_refl _) bn)
            have HAC := Lib.hid (ha.alloc (.cells (([.int .i64 ocl, .int .i64 oty, .slice A3 ol.length c3] : List Value).toArray) 32))
            clear hb bn ha H9 HB9
            go_upto_region 22 with fail
            revert HQ H10 HB10 HAC
            generalize World.alloc W9 _ = W10
            intro HQ H10 HB10 HAC
            obtain ⟨q3, hq3⟩ : ∃ q, q = W9.heap.size := ⟨_, rfl⟩
            rw [← hq3] at HQ ⊢
            clear hq3
            have a0 := HQ.out.cell 0
            have a1 := HQ.out.cell 1
            have a2 := HQ.out.cell 2
            simp only [List.getElem?_cons_zero, List.getElem?_cons_succ] at a0 a1 a2
            have hu := unpack_calls ocl oty A3 ol.length c3 ol W10 HAC.out.bts (by omega)
            go_wp2_with fail
            ((with_reducible refine hu.mono ?_))
            intro e W11 hpost
            obtain ⟨z, hz, hzn, rfl, hacc, hb⟩ := hpost.yes (back_one HPK.out)
            clear hu hpost a0 a1 a2
            have HZ := Lib.hid (Blk.new W11 36 z.cells)
            have bn := bel_new hb (.cells z.cells.toArray 36)
            have H12 := Lib.hid (H10.out.below bn)
            have HB12 := Lib.hid (bel_more HB10.out (Nat.le_refl _) bn)
            have HZA := Lib.hid (AccR.lower (AccR.alloc hacc (.cells z.cells.toArray 36)) HB10.out.size)
            have HZN := Lib.hid hzn
            have HZV := Lib.hid hz
            clear hb bn hacc HQ H10 HB10 HAC hzn hz
            have hoz := ours7_calls z
            have hsm : ∀ W V, AccI V w.heap.size z.la z.lc z.l → Below V.heap.size V W → Below w.heap.size w W → Calls Try.prog 17 #[.agg z.cells.toArray, .agg (It.cells ⟨ocl, xa, xb, xc, xu, xla, xln, xlc, xl, ⟨xbw, xsu, xho, xan, xal, xno⟩⟩).toArray] W (SamePost W (z.val.same (It.val ⟨ocl, xa, xb, xc, xu, xla, xln, xlc, xl, ⟨xbw, xsu, xho, xan, xal, xno⟩⟩))) := fun W V ha hb hb2 =>
              rsame7_calls z ⟨ocl, xa, xb, xc, xu, xla, xln, xlc, xl, ⟨xbw, xsu, xho, xan, xal, xno⟩⟩ V.heap.size w.heap.size W ((show Row ei V V.heap.size z.la z.ln z.l by rw [HZN.out]; exact AccR.row ha).below hb) (HX.out.row.below hb2) hb.size hb2.size (by have := AccR.cap ha; have := HZN.out; omega) HX.out.len
            rw [(PIt.same_iff _ _).2 HZV.out] at hsm
            obtain ⟨zcl, za, zb, zc, zu, zla, zln, zlc, zl, zbw, zsu, zho, zan, zal, zno⟩ := z
            simp only [It.cells] at HZ H12 HB12 HZA HZN hoz hsm ⊢
            go_upto_region 23 with fail
            revert HZ H12 HB12 HZA
            generalize World.alloc W11 _ = W12
            intro HZ H12 HB12 HZA
            obtain ⟨q4, hq4⟩ : ∃ q, q = W11.heap.size := ⟨_, rfl⟩
            rw [← hq4] at HZ ⊢
            clear hq4
            go_wp2
            refine region_seq (fun W => Below W12.heap.size W12 W)
              [(0, true), (1, true), (2, true), (3, true), (4, true), (5, true), (6, true), (7, true), (8, true), (9, true), (10, true), (11, true), (13, true), (12, false), (14, false), (15, true), (16, true)]
              (by kernel_rfl) (by kernel_rfl) (by kernel_rfl) (by kernel_rfl) (fun _ _ _ _ _ h => h) ⟨rfl, rfl, rfl, Nat.le_refl _, fun _ _ => rfl⟩ ?_
            repeat
              first
              | (refine seq_pure (v := ?_) rfl (by rfl) (fun W hW => ?_) ?_
                 rotate_left
                 · clear hW
                   go_simp
                   with_reducible rfl
                 simp only [Act.put, List.setIfInBounds_toArray, List.set_cons_zero, List.set_cons_succ])
              | (refine seq_pure (v := ?_) rfl (by rfl) (fun W hW => ?_) ?_
                 rotate_left
                 · have a0 := (HZ.out.below hW).cell 0
                   have a1 := (HZ.out.below hW).cell 1
                   have a2 := (HZ.out.below hW).cell 2
                   have a3 := (HZ.out.below hW).cell 3
                   have a4 := (HZ.out.below hW).cell 4
                   have a5 := (HZ.out.below hW).cell 5
                   have a6 := (HZ.out.below hW).cell 6
                   have a7 := (HZ.out.below hW).cell 7
                   have a8 := (HZ.out.below hW).cell 8
                   have a9 := (HZ.out.below hW).cell 9
                   have a10 := (HZ.out.below hW).cell 10
                   have a11 := (HZ.out.below hW).cell 11
                   simp only [List.getElem?_cons_zero, List.getElem?_cons_succ] at a0 a1 a2 a3 a4 a5 a6 a7 a8 a9 a10 a11
                   go_simp
                   with_reducible rfl
                 simp only [Act.put, List.setIfInBounds_toArray, List.set_cons_zero, List.set_cons_succ])
              | (refine seq_pure (v := ?_) rfl (by rfl) (fun W hW => ?_) ?_
                 rotate_left
                 · have a0 := (H12.out.below hW).cell 0
                   have a1 := (H12.out.below hW).cell 1
                   have a2 := (H12.out.below hW).cell 2
                   have a3 := (H12.out.below hW).cell 3
                   have a4 := (H12.out.below hW).cell 4
                   have a5 := (H12.out.below hW).cell 5
                   have a6 := (H12.out.below hW).cell 6
                   have a7 := (H12.out.below hW).cell 7
                   have a8 := (H12.out.below hW).cell 8
                   have a9 := (H12.out.below hW).cell 9
                   have a10 := (H12.out.below hW).cell 10
                   have a11 := (H12.out.below hW).cell 11
                   simp only [List.getElem?_cons_zero, List.getElem?_cons_succ] at a0 a1 a2 a3 a4 a5 a6 a7 a8 a9 a10 a11
                   go_simp
                   with_reducible rfl
                 simp only [Act.put, List.setIfInBounds_toArray, List.set_cons_zero, List.set_cons_succ])
              | (refine seq_skip rfl (by rfl) ?_
                 simp only [Act.put, List.setIfInBounds_toArray, List.set_cons_zero, List.set_cons_succ])
            refine seq_make rfl (by rfl) (fun K hK => ?_)
            go_simp
            ((with_reducible refine (hoz _).mono ?_))
            rintro e V1 ⟨rfl, hb⟩
            have HS1 := Lib.hid (show Below W12.heap.size W12 V1 from below_of_drew hb)
            clear hb
            simp only [It.cells]
            go_simp
            refine hK _ _ (fun W => Below W12.heap.size W12 W) (fun W h => h) HS1.out ?_
            clear hK K
            refine seq_make rfl (by rfl) (fun K hK => ?_)
            go_simp
            have hc := hsm V1 W12 HZA.out HS1.out (bel_more HB12.out (Nat.le_refl _) HS1.out)
            ((with_reducible refine hc.mono ?_))
            rintro e V2 ⟨rfl, hb⟩
            have HS2 := Lib.hid (show Below W12.heap.size W12 V2 from bel_more HS1.out (Nat.le_refl _) hb)
            clear hb hc
            go_simp
            refine hK _ _ (fun W => Below W12.heap.size W12 W) (fun W h => h) HS2.out ?_
            clear hK K
            repeat
              first
              | (refine seq_pure (v := ?_) rfl (by rfl) (fun W hW => ?_) ?_
                 rotate_left
                 · clear hW
                   go_simp
                   with_reducible rfl
                 simp only [Act.put, List.setIfInBounds_toArray, List.set_cons_zero, List.set_cons_succ])
              | (refine seq_pure (v := ?_) rfl (by rfl) (fun W hW => ?_) ?_
                 rotate_left
                 · have a0 := (HZ.out.below hW).cell 0
                   have a1 := (HZ.out.below hW).cell 1
                   have a2 := (HZ.out.below hW).cell 2
                   have a3 := (HZ.out.below hW).cell 3
                   have a4 := (HZ.out.below hW).cell 4
                   have a5 := (HZ.out.below hW).cell 5
                   have a6 := (HZ.out.below hW).cell 6
                   have a7 := (HZ.out.below hW).cell 7
                   have a8 := (HZ.out.below hW).cell 8
                   have a9 := (HZ.out.below hW).cell 9
                   have a10 := (HZ.out.below hW).cell 10
                   have a11 := (HZ.out.below hW).cell 11
                   simp only [List.getElem?_cons_zero, List.getElem?_cons_succ] at a0 a1 a2 a3 a4 a5 a6 a7 a8 a9 a10 a11
                   go_simp
                   with_reducible rfl
                 simp only [Act.put, List.setIfInBounds_toArray, List.set_cons_zero, List.set_cons_succ])
              | (refine seq_pure (v := ?_) rfl (by rfl) (fun W hW => ?_) ?_
                 rotate_left
                 · have a0 := (H12.out.below hW).cell 0
                   have a1 := (H12.out.below hW).cell 1
                   have a2 := (H12.out.below hW).cell 2
                   have a3 := (H12.out.below hW).cell 3
                   have a4 := (H12.out.below hW).cell 4
                   have a5 := (H12.out.below hW).cell 5
                   have a6 := (H12.out.below hW).cell 6
                   have a7 := (H12.out.below hW).cell 7
                   have a8 := (H12.out.below hW).cell 8
                   have a9 := (H12.out.below hW).cell 9
                   have a10 := (H12.out.below hW).cell 10
                   have a11 := (H12.out.below hW).cell 11
                   simp only [List.getElem?_cons_zero, List.getElem?_cons_succ] at a0 a1 a2 a3 a4 a5 a6 a7 a8 a9 a10 a11
                   go_simp
                   with_reducible rfl
                 simp only [Act.put, List.setIfInBounds_toArray, List.set_cons_zero, List.set_cons_succ])
              | (refine seq_skip rfl (by rfl) ?_
                 simp only [Act.put, List.setIfInBounds_toArray, List.set_cons_zero, List.set_cons_succ])
            refine seq_done ?_
            go_wp2
            go_ret
            exact ⟨rfl, bel_more HB12.out (Nat.le_refl _) HS2.out⟩
end Go.Proofs.Ytocogdcecnnnnaa
