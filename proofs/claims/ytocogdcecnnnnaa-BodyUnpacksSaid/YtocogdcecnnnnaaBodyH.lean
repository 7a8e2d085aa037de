/-
  Contract of body.Pack. Condition: the item's list reads as numbers.
-/
import Derived.Test.YtocogdcecnnnnaaBodyG
namespace Go.Proofs.Ytocogdcecnnnnaa
open Go.RowKit

/-- What Pack answers: an object whose bytes lie in memory of the call's own, or an error. -/
def PackPost (w : World) (x : PIt) (e : Ending) (w' : World) : Prop :=
  Below w.heap.size w w' ∧ ((pack x = none ∧ e = .returned (.tuple #[.agg #[.int .i64 0, .int .i64 0, .slice none 0 0], .int .i64 2])) ∨
    (∃ o A c, pack x = some o ∧ e = .returned (.tuple #[.agg #[.int .i64 o.1, .int .i64 o.2.1, .slice A o.2.2.length c], .int .i64 0]) ∧ Acc w' w.heap.size A c o.2.2))

/-- What an item must be like to be read. -/
structure Fine (w : World) (B : Nat) (x : It) : Prop where
  row : Row ei w B x.la x.ln x.l
  len : x.ln ≤ maxLen
  u : x.u < 18446744073709551616
  any : x.w.any < 4294967296
  all : x.w.all < 4294967296
  non : x.w.non < 4294967296
theorem Fine.below {w w' : World} {B : Nat} {x : It} (h : Fine w B x) (hb : Below B w w') : Fine w' B x := ⟨h.row.below hb, h.len, h.u, h.any, h.all, h.non⟩
theorem Fine.more {w : World} {B B' : Nat} {x : It} (h : Fine w B x) (hb : B ≤ B') : Fine w B' x := ⟨h.row.more hb, h.len, h.u, h.any, h.all, h.non⟩
theorem Fine.up {w w' : World} {x : It} (h : Fine w w.heap.size x) (hb : Below w.heap.size w w') : Fine w' w'.heap.size x := (h.below hb).more hb.size

/-- An object with these cells is answered, and nothing of old has turned. -/
theorem packPost_no {w w' : World} {x : PIt} {e : Ending} (h : pack x = none) (he : e = .returned (.tuple #[.agg #[.int .i64 0, .int .i64 0, .slice none 0 0], .int .i64 2])) (hb : Below w.heap.size w w') : PackPost w x e w' := ⟨hb, .inl ⟨h, he⟩⟩

/-- Three new blocks. -/
theorem three_new (w : World) (T0 T1 T2 : TypeId) (v0 v1 v2 : List Value) :
    Blk (((w.alloc (.cells v0.toArray T0)).alloc (.cells v1.toArray T1)).alloc (.cells v2.toArray T2)) w.heap.size T0 v0 ∧
    Blk (((w.alloc (.cells v0.toArray T0)).alloc (.cells v1.toArray T1)).alloc (.cells v2.toArray T2)) (w.heap.size + 1) T1 v1 ∧
    Blk (((w.alloc (.cells v0.toArray T0)).alloc (.cells v1.toArray T1)).alloc (.cells v2.toArray T2)) (w.heap.size + 2) T2 v2 ∧
    Below w.heap.size w (((w.alloc (.cells v0.toArray T0)).alloc (.cells v1.toArray T1)).alloc (.cells v2.toArray T2)) := by
  have h1 := Blk.new (w.alloc (.cells v0.toArray T0)) T1 v1
  have h2 := Blk.new ((w.alloc (.cells v0.toArray T0)).alloc (.cells v1.toArray T1)) T2 v2
  simp only [World.size_alloc] at h1 h2
  exact ⟨((Blk.new w T0 v0).alloc _).alloc _, h1.alloc _, h2, bel_new (bel_new (bel_new (Below.refl _ _) _) _) _⟩

/-- An object is stored into a block of the call's own. -/
theorem obj_put {w W : World} {r : Nat} {T : TypeId} {u0 u1 u2 : Value} (hb : Below w.heap.size w W) (hr : w.heap.size ≤ r) (hB : Blk W r T [u0, u1, u2]) (v0 v1 v2 : Value) :
    Blk (((W.setCell ⟨r, 0, none⟩ v0).setCell ⟨r, 1, none⟩ v1).setCell ⟨r, 2, none⟩ v2) r T [v0, v1, v2] ∧ Below w.heap.size w (((W.setCell ⟨r, 0, none⟩ v0).setCell ⟨r, 1, none⟩ v1).setCell ⟨r, 2, none⟩ v2) ∧
    (∀ (B c : Nat) (A : Option Addr) (l : List UInt8), T ≠ 5 → Acc W B A c l → Acc (((W.setCell ⟨r, 0, none⟩ v0).setCell ⟨r, 1, none⟩ v1).setCell ⟨r, 2, none⟩ v2) B A c l) := by
  refine ⟨((hB.set 0 v0).set 1 v1).set 2 v2, ((hb.setCell (p := ⟨r, 0, none⟩) hr v0).setCell (p := ⟨r, 1, none⟩) hr v1).setCell (p := ⟨r, 2, none⟩) hr v2, ?_⟩
  intro B c A l hT ha
  refine ha.kept (upd_trans (upd_trans (upd_set_p W r 0 v0) (upd_set_p _ r 1 v1)) (upd_set_p _ r 2 v2)) ?_
  cases hk : blk A with
  | none => exact .inl rfl
  | some k => exact .inr (fun e => typ_ne (ha.typ hk) hB.typ (Ne.symm hT) (by injection e))

theorem pack_none {x : PIt} (h : knd x.cl = 0 ∨ (DSt.fields x (.wr [] false)).2.bad = true ∨ x.same (DSt.fields x (.wr [] false)).1 = false) : pack x = none := by
  unfold pack
  by_cases hk : knd x.cl = 0
  · rw [if_pos hk]
  · rw [if_neg hk]
    by_cases hb : (DSt.fields x (.wr [] false)).2.bad = true
    · rw [if_pos hb]
    · rw [if_neg hb]
      rcases h with h | h | h
      · exact absurd h hk
      · exact absurd h hb
      · rw [h]; rfl
theorem pack_yes {x : PIt} (h1 : ¬ knd x.cl = 0) (h2 : (DSt.fields x (.wr [] false)).2.bad = false) (h3 : x.same (DSt.fields x (.wr [] false)).1 = true) : pack x = some (x.cl, knd x.cl, (DSt.fields x (.wr [] false)).2.byt) := by
  unfold pack
  rw [if_neg h1, h2, if_neg (by simp), if_pos h3]

/-- What lies in memory while Pack goes on: the item, the object that is answered, the writer and its bytes. -/
structure Pk (w : World) (xs : List Value) (b : List UInt8) (bad : Bool) (A : Option Addr) (c : Nat) (W : World) : Prop where
  box : Blk W w.heap.size 36 xs
  res : Blk W (w.heap.size + 1) 32 [.int .i64 0, .int .i64 0, .slice none 0 0]
  wr : Blk W (w.heap.size + 2) 55 [.slice A b.length c, .bool bad]
  acc : Acc W w.heap.size A c b
  bel : Below w.heap.size w W
theorem Pk.below {w W W' : World} {xs : List Value} {b : List UInt8} {bad : Bool} {A : Option Addr} {c : Nat} (h : Pk w xs b bad A c W) (hb : Below W.heap.size W W') : Pk w xs b bad A c W' :=
  ⟨h.box.below hb, h.res.below hb, h.wr.below hb, h.acc.bel hb, bel_more h.bel (Nat.le_refl _) hb⟩
theorem Pk.new {w W : World} {xs : List Value} {b : List UInt8} {bad : Bool} {A : Option Addr} {c : Nat} (h : Pk w xs b bad A c W) (o : Obj) : Pk w xs b bad A c (W.alloc o) := h.below (bel_new (Below.refl _ _) o)
/-- What is known once it is decided whether the item is one. -/
def CutP (w : World) (xs : List Value) (b : List UInt8) (bad : Bool) (A : Option Addr) (c : Nat) (x : PIt) (v : Value) (W : World) : Prop :=
  Pk w xs b bad A c W ∧ ∃ u, v = .bool u ∧ ((u = true ∧ pack x = none) ∨ (u = false ∧ pack x = some (x.cl, knd x.cl, b)))

set_option maxRecDepth 100000 in
set_option maxHeartbeats 3200000 in
theorem pack_calls (x : It) (w : World) (h : Fine w w.heap.size x) :
    Calls Try.prog 9 #[.agg x.cells.toArray] w (PackPost w x.val) := by
  have hth := three_new w 36 32 55 x.cells [.int .i64 0, .int .i64 0, .slice none 0 0] [.slice none 0 0, .bool false]
  have H0 := Lib.hid hth.1
  have H1 := Lib.hid hth.2.1
  have H2 := Lib.hid hth.2.2.1
  have HBel := Lib.hid hth.2.2.2
  have HF := Lib.hid (h.up hth.2.2.2)
  have HF0 := Lib.hid h
  clear hth h
  obtain ⟨cl, xa, xb, xc, xu, la, ln, lc, l, bw, su, ho, an, al, no⟩ := x
  simp only [It.cells] at H0 H1 H2 HBel HF ⊢
  go_enter Try.func9, Try.ntmps9
  go_upto_region 2 with fail
  revert H0 H1 H2 HBel HF
  generalize World.alloc (World.alloc (World.alloc w _) _) _ = W1
  intro H0 H1 H2 HBel HF
  have hd : Dir W1 w.heap.size [w.heap.size + 2] 53 (w.heap.size + 2) (.wr [] false) := ⟨rfl, rfl, by omega, none, 0, H2.out, Acc.nil _ _⟩
  have hc := fields_calls hd ⟨cl, xa, xb, xc, xu, la, ln, lc, l, ⟨bw, su, ho, an, al, no⟩⟩ HF.out.row HF.out.len HF.out.u HF.out.any HF.out.all HF.out.non (by simp [DSt.len]) HBel.out.size
  unfold dv at hc
  simp only [It.cells, It.val] at hc
  clear hd H2
  have x0 := H0.out.cell 0
  have x1 := H0.out.cell 1
  have x2 := H0.out.cell 2
  have x3 := H0.out.cell 3
  have x4 := H0.out.cell 4
  have x5 := H0.out.cell 5
  have x6 := H0.out.cell 6
  have x7 := H0.out.cell 7
  have x8 := H0.out.cell 8
  have x9 := H0.out.cell 9
  have x10 := H0.out.cell 10
  have x11 := H0.out.cell 11
  simp only [List.getElem?_cons_zero, List.getElem?_cons_succ] at x0 x1 x2 x3 x4 x5 x6 x7 x8 x9 x10 x11
  go_wp2_with fail
  ((with_reducible refine hc.mono ?_))
  rintro e W2 ⟨y, rfl, hv, ha, hyn, hd, ht⟩
  clear hc x0 x1 x2 x3 x4 x5 x6 x7 x8 x9 x10 x11
  obtain ⟨b', bad', eb, _⟩ := run_wr_bad (rqs ((DSt.wr [] false).many l.length) ⟨cl, xa, xb, xc, xu, l, ⟨bw, su, ho, an, al, no⟩⟩) [] false
  have eb2 : (DSt.fields ⟨cl, xa, xb, xc, xu, l, ⟨bw, su, ho, an, al, no⟩⟩ (.wr [] false)).2 = .wr b' bad' := eb
  rw [eb2] at hd
  obtain ⟨_, _, _, A, c, hwb, hacc⟩ := hd
  have h0' : Blk W2 w.heap.size 36 _ := H0.out.same (ht.block _ H0.out.lt (by simp))
  have h1' : Blk W2 (w.heap.size + 1) 32 _ := H1.out.same (ht.block _ H1.out.lt (by simp))
  have hbel2 := Turn.bel HBel.out (Nat.le_refl _) ht (by simp)
  have hyl := ha.row
  have HK := Lib.hid (show Pk w [.int .i64 cl, .int .i64 xa, .int .i64 xb, .int .i64 xc, .int .u64 (xu : Int), .slice la ln lc, .int .u64 (bw : Int), .int .i64 su, .int .i64 ho, .int .u32 (an : Int), .int .u32 (al : Int), .int .u32 (no : Int)] b' bad' A c W2 from ⟨h0', h1', hwb, hacc, hbel2⟩)
  obtain ⟨ycl, ya, yb, yc, yu, yla, yln, ylc, yl, ybw, ysu, yho, yan, yal, yno⟩ := y
  simp only at hyn hyl ha
  subst hyn
  have hmx := (AccR.cap ha).1
  have hmx2 := (AccR.cap ha).2
  have HSM := Lib.hid (bsame_calls ⟨cl, xa, xb, xc, xu, la, ln, lc, l, ⟨bw, su, ho, an, al, no⟩⟩ ⟨ycl, ya, yb, yc, yu, yla, yl.length, ylc, yl, ⟨ybw, ysu, yho, yan, yal, yno⟩⟩ w.heap.size (W2.heap.size) (W2.alloc (.cells ([.int .i64 ycl, .int .i64 ya, .int .i64 yb, .int .i64 yc, .int .u64 (yu : Int), .slice yla yl.length ylc, .int .u64 (ybw : Int), .int .i64 ysu, .int .i64 yho, .int .u32 (yan : Int), .int .u32 (yal : Int), .int .u32 (yno : Int)]).toArray 36)) ((HF0.out.row.below hbel2).below (bel_alloc (Below.refl _ _) (by have := hbel2.size; omega) _)) (hyl.below (bel_new (Below.refl _ _) _)) (by have := hbel2.size; simp; omega) (by simp) HF0.out.len (by simp only; omega))
  have HY := Lib.hid (Blk.new W2 36 [.int .i64 ycl, .int .i64 ya, .int .i64 yb, .int .i64 yc, .int .u64 (yu : Int), .slice yla yl.length ylc, .int .u64 (ybw : Int), .int .i64 ysu, .int .i64 yho, .int .u32 (yan : Int), .int .u32 (yal : Int), .int .u32 (yno : Int)])
  have HV := Lib.hid hv
  have EB := Lib.hid eb2
  have HK3 := Lib.hid (HK.out.new (.cells ([.int .i64 ycl, .int .i64 ya, .int .i64 yb, .int .i64 yc, .int .u64 (yu : Int), .slice yla yl.length ylc, .int .u64 (ybw : Int), .int .i64 ysu, .int .i64 yho, .int .u32 (yan : Int), .int .u32 (yal : Int), .int .u32 (yno : Int)]).toArray 36))
  clear hv eb2 eb hyl ha hmx hmx2 hwb hacc h0' h1' hbel2 HK H0 H1 HF HBel ht
  simp only [It.cells, It.val] at HSM HV
  simp only [It.cells]
  go_upto_region 3 with fail
  revert HSM HY HK3
  generalize World.alloc W2 _ = W3
  intro HSM HY HK3
  go_cut [27] (fun v W => CutP w [.int .i64 cl, .int .i64 xa, .int .i64 xb, .int .i64 xc, .int .u64 (xu : Int), .slice la ln lc, .int .u64 (bw : Int), .int .i64 su, .int .i64 ho, .int .u32 (an : Int), .int .u32 (al : Int), .int .u32 (no : Int)] b' bad' A c ⟨cl, xa, xb, xc, xu, l, ⟨bw, su, ho, an, al, no⟩⟩ v W)
  case first =>
    have hk := kind_calls cl
    have x0 := HK3.out.box.cell 0
    simp only [List.getElem?_cons_zero] at x0
    by_cases h0 : knd cl = 0
    · rw [h0] at hk
      go_wp2_with fail
      ((with_reducible refine (hk _).mono ?_))
      rintro e w4 ⟨rfl, rfl⟩
      clear hk x0
      go_wp2
      go_meet
      exact ⟨HK3.out, true, rfl, .inl ⟨rfl, pack_none (.inl h0)⟩⟩
    · have h0' : ((knd cl) == 0) = false := by rw [beq_eq_false_iff_ne]; exact h0
      have c1 := HK3.out.wr.cell 1
      simp only [List.getElem?_cons_zero, List.getElem?_cons_succ] at c1
      have H00 := Lib.hid h0
      cases bad' with
      | true =>
        generalize knd cl = kk at hk h0 h0'
        go_wp2_with fail
        ((with_reducible refine (hk _).mono ?_))
        rintro e w4 ⟨rfl, rfl⟩
        clear hk x0
        go_wp2
        go_meet
        exact ⟨HK3.out, true, rfl, .inl ⟨rfl, pack_none (.inr (.inl (by rw [EB.out]; rfl)))⟩⟩
      | false =>
        generalize knd cl = kk at hk h0 h0'
        have x1 := HK3.out.box.cell 1
        have x2 := HK3.out.box.cell 2
        have x3 := HK3.out.box.cell 3
        have x4 := HK3.out.box.cell 4
        have x5 := HK3.out.box.cell 5
        have x6 := HK3.out.box.cell 6
        have x7 := HK3.out.box.cell 7
        have x8 := HK3.out.box.cell 8
        have x9 := HK3.out.box.cell 9
        have x10 := HK3.out.box.cell 10
        have x11 := HK3.out.box.cell 11
        simp only [List.getElem?_cons_zero, List.getElem?_cons_succ] at x1 x2 x3 x4 x5 x6 x7 x8 x9 x10 x11
        have y0 := HY.out.cell 0
        have y1 := HY.out.cell 1
        have y2 := HY.out.cell 2
        have y3 := HY.out.cell 3
        have y4 := HY.out.cell 4
        have y5 := HY.out.cell 5
        have y6 := HY.out.cell 6
        have y7 := HY.out.cell 7
        have y8 := HY.out.cell 8
        have y9 := HY.out.cell 9
        have y10 := HY.out.cell 10
        have y11 := HY.out.cell 11
        simp only [List.getElem?_cons_zero, List.getElem?_cons_succ] at y0 y1 y2 y3 y4 y5 y6 y7 y8 y9 y10 y11
        go_wp2_with fail
        ((with_reducible refine (hk _).mono ?_))
        rintro e w4 ⟨rfl, rfl⟩
        clear hk
        go_wp2_with fail
        ((with_reducible refine HSM.out.mono ?_))
        rintro e W4 ⟨rfl, hb4⟩
        clear x0 c1 x1 x2 x3 x4 x5 x6 x7 x8 x9 x10 x11 y0 y1 y2 y3 y4 y5 y6 y7 y8 y9 y10 y11
        rw [HV.out]
        have HK4 := Lib.hid (HK3.out.below hb4)
        cases hs : PIt.same ⟨cl, xa, xb, xc, xu, l, ⟨bw, su, ho, an, al, no⟩⟩ (DSt.fields ⟨cl, xa, xb, xc, xu, l, ⟨bw, su, ho, an, al, no⟩⟩ (.wr [] false)).1
        · go_wp2
          go_meet
          exact ⟨HK4.out, true, rfl, .inl ⟨rfl, pack_none (.inr (.inr hs))⟩⟩
        · go_wp2
          go_meet
          exact ⟨HK4.out, false, rfl, .inr ⟨rfl, by
            have h5 := pack_yes H00.out (by rw [EB.out]; rfl) hs
            rw [EB.out] at h5
            exact h5⟩⟩
  case rest =>
    obtain ⟨hK, v, rfl, hv⟩ := hcut
    have r0 := hK.res.cell 0
    have r1 := hK.res.cell 1
    have r2 := hK.res.cell 2
    have g0 := hK.res.free 0
    have g1 := hK.res.free 1
    have g2 := hK.res.free 2
    simp only [List.getElem?_cons_zero, List.getElem?_cons_succ] at r0 r1 r2
    have HK := Lib.hid hK
    clear hK HSM HY HK3 HV EB
    rcases hv with ⟨rfl, hp⟩ | ⟨rfl, hp⟩
    · have HP := Lib.hid hp
      clear hp
      go_wp2
      clear r0 r1 r2 g0 g1 g2
      have HO := Lib.hid (obj_put HK.out.bel (by omega) HK.out.res (.int .i64 0) (.int .i64 0) (.slice none 0 0))
      revert HO
      generalize World.setCell (World.setCell (World.setCell wc _ _) _ _) _ _ = W5
      intro HO
      have y0 := HO.out.1.cell 0
      have y1 := HO.out.1.cell 1
      have y2 := HO.out.1.cell 2
      simp only [List.getElem?_cons_zero, List.getElem?_cons_succ] at y0 y1 y2
      refine bodyPost_ret (v := .tuple #[.agg #[.int .i64 0, .int .i64 0, .slice none 0 0], .int .i64 2]) (by simp [results, Try.results9, go_sem, y0, y1, y2]) rfl ?_
      exact packPost_no HP.out rfl HO.out.2.1
    · have HP := Lib.hid hp
      clear hp
      have x0 := HK.out.box.cell 0
      have c0 := HK.out.wr.cell 0
      simp only [List.getElem?_cons_zero] at x0 c0
      have HC := Lib.hid (show wc.cell? ⟨w.heap.size, 0, none⟩ = some (.int .i64 cl) ∧ wc.cell? ⟨w.heap.size + 2, 0, none⟩ = some (.slice A b'.length c) from ⟨x0, c0⟩)
      have HR := Lib.hid (show wc.cell? ⟨w.heap.size + 1, 0, none⟩ = some (.int .i64 0) ∧ wc.cell? ⟨w.heap.size + 1, 1, none⟩ = some (.int .i64 0) ∧ wc.cell? ⟨w.heap.size + 1, 2, none⟩ = some (.slice none 0 0) ∧ wc.frozen? ⟨w.heap.size + 1, 0, none⟩ = false ∧ wc.frozen? ⟨w.heap.size + 1, 1, none⟩ = false ∧ wc.frozen? ⟨w.heap.size + 1, 2, none⟩ = false from ⟨r0, r1, r2, g0, g1, g2⟩)
      clear x0 c0 r0 r1 r2 g0 g1 g2
      go_wp2
      refine region_seq (fun W => W.cell? ⟨w.heap.size, 0, none⟩ = some (.int .i64 cl) ∧ W.cell? ⟨w.heap.size + 2, 0, none⟩ = some (.slice A b'.length c))
        [(0, true), (1, true), (2, true), (3, true), (5, true), (6, true), (7, true), (8, true), (4, false), (9, true), (10, false), (11, true)]
        (by kernel_rfl) (by kernel_rfl) (by kernel_rfl) (by kernel_rfl) (fun _ _ _ _ _ h => h) HC.out ?_
      repeat
        refine seq_pure (v := ?_) rfl (by rfl) (fun W hW => ?_) ?_
        rotate_left
        · obtain ⟨d0, d1⟩ := hW
          go_simp
          try with_reducible rfl
        simp only [Act.put, List.setIfInBounds_toArray, List.set_cons_zero, List.set_cons_succ]
      refine seq_make rfl (by rfl) (fun K hK => ?_)
      go_simp
      ((with_reducible refine (kind_calls cl _).mono ?_))
      rintro e w6 ⟨rfl, rfl⟩
      go_simp
      refine hK _ _ (fun W => W.cell? ⟨w.heap.size, 0, none⟩ = some (.int .i64 cl) ∧ W.cell? ⟨w.heap.size + 2, 0, none⟩ = some (.slice A b'.length c)) (fun W h => h) HC.out ?_
      clear hK K
      repeat
        refine seq_pure (v := ?_) rfl (by rfl) (fun W hW => ?_) ?_
        rotate_left
        · obtain ⟨d0, d1⟩ := hW
          go_simp
          try with_reducible rfl
        simp only [Act.put, List.setIfInBounds_toArray, List.set_cons_zero, List.set_cons_succ]
      refine seq_make rfl (by rfl) (fun K hK => ?_)
      obtain ⟨r0, r1, r2, g0, g1, g2⟩ := HR.out
      go_simp
      clear r0 r1 r2 g0 g1 g2
      have HO := Lib.hid (obj_put HK.out.bel (by omega) HK.out.res (.int .i64 cl) (.int .i64 (knd cl)) (.slice A b'.length c))
      have hx0 := (((HK.out.box.other (p := ⟨w.heap.size + 1, 0, none⟩) (by simp) (.int .i64 cl)).other (p := ⟨w.heap.size + 1, 1, none⟩) (by simp) (.int .i64 (knd cl))).other (p := ⟨w.heap.size + 1, 2, none⟩) (by simp) (.slice A b'.length c)).cell 0
      have hx1 := (((HK.out.wr.other (p := ⟨w.heap.size + 1, 0, none⟩) (by simp) (.int .i64 cl)).other (p := ⟨w.heap.size + 1, 1, none⟩) (by simp) (.int .i64 (knd cl))).other (p := ⟨w.heap.size + 1, 2, none⟩) (by simp) (.slice A b'.length c)).cell 0
      have HCC := Lib.hid (And.intro hx0 hx1)
      clear hx0 hx1
      refine hK _ _ (fun W => W.cell? ⟨w.heap.size, 0, none⟩ = some (.int .i64 cl) ∧ W.cell? ⟨w.heap.size + 2, 0, none⟩ = some (.slice A b'.length c)) (fun W h => h) HCC.out ?_
      clear hK K HCC
      repeat
        refine seq_pure (v := ?_) rfl (by rfl) (fun W hW => ?_) ?_
        rotate_left
        · obtain ⟨d0, d1⟩ := hW
          go_simp
          try with_reducible rfl
        simp only [Act.put, List.setIfInBounds_toArray, List.set_cons_zero, List.set_cons_succ]
      refine seq_done ?_
      revert HO
      generalize World.setCell (World.setCell (World.setCell wc _ _) _ _) _ _ = W5
      intro HO
      have y0 := HO.out.1.cell 0
      have y1 := HO.out.1.cell 1
      have y2 := HO.out.1.cell 2
      simp only [List.getElem?_cons_zero, List.getElem?_cons_succ] at y0 y1 y2
      go_wp2
      refine bodyPost_ret (v := .tuple #[.agg #[.int .i64 cl, .int .i64 (knd cl), .slice A b'.length c], .int .i64 0]) (by simp [results, Try.results9, go_sem, y0, y1, y2]) rfl ?_
      exact ⟨⟨HO.out.2.1.os, HO.out.2.1.tape, HO.out.2.1.output, HO.out.2.1.size, HO.out.2.1.block⟩, .inr ⟨_, A, c, HP.out, rfl, HO.out.2.2 _ _ _ _ (by decide) HK.out.acc⟩⟩
end Go.Proofs.Ytocogdcecnnnnaa
