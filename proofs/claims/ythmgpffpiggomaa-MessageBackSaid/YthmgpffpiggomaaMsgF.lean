/-
  Contract of message.same. Condition: the lists that come in read as numbers.
-/
import Derived.Test.YthmgpffpiggomaaMsgE
namespace Go.Proofs.Ythmgpffpiggomaa
open Go.RowKit

theorem equal8_calls (a a2 : Option Addr) (n n2 c c2 : Nat) (l k : List Int) (B B2 : Nat) (w : World) (h : Row ei w B a n l) (h2 : Row ei w B2 a2 n2 k) (_hB : B ≤ w.heap.size) (_hB2 : B2 ≤ w.heap.size) (hn : n ≤ maxLen) (hn2 : n2 ≤ maxLen) :
    Calls Try.prog 55 #[.slice a n c, .slice a2 n2 c2] w (SamePost w (l == k)) := by
  refine (equal_calls a a2 n n2 c c2 l k B B2 w h h2 hn hn2).mono ?_
  rintro e w1 ⟨rfl, m, rfl⟩
  exact ⟨rfl, bel_drewN (Below.refl _ _) m⟩


set_option maxRecDepth 100000 in
set_option maxHeartbeats 6400000 in
theorem msame_calls (x y : Ms) (B B2 : Nat) (w : World) (h : FineM w B x) (h2 : FineM w B2 y) (hB : B ≤ w.heap.size) (hB2 : B2 ≤ w.heap.size) :
    Calls Try.prog 26 #[.agg x.cells.toArray, .agg y.cells.toArray] w (SamePost w (x.val.same y.val)) := by
  obtain ⟨xty, xtl, xkt, xku, xkh, xkl, xfr, xpe, xse, ⟨xbw, xsu, xho, xan, xal, xno⟩, xra, xrn, xrc, xr, xoa, xon, xoc, xo, xlb, xwh, xco⟩ := x
  obtain ⟨yty, ytl, ykt, yku, ykh, ykl, yfr, ype, yse, ⟨ybw, ysu, yho, yan, yal, yno⟩, yra, yrn, yrc, yr, yoa, yon, yoc, yo, ylb, ywh, yco⟩ := y
  simp only [Ms.cells, Ms.val]
  have hbx := (Blk.new w 37 [.int .i64 xty, .int .i64 xtl, .int .i64 xkt, .int .i64 xku, .int .i64 xkh, .int .i64 xkl, .int .i64 xfr, .int .i64 xpe, .int .i64 xse, .int .u64 (xbw : Int), .int .i64 xsu, .int .i64 xho, .int .u32 (xan : Int), .int .u32 (xal : Int), .int .u32 (xno : Int), .slice xra xrn xrc, .slice xoa xon xoc, .int .i64 xlb, .int .i64 xwh, .int .i64 xco]).alloc (.cells ([.int .i64 yty, .int .i64 ytl, .int .i64 ykt, .int .i64 yku, .int .i64 ykh, .int .i64 ykl, .int .i64 yfr, .int .i64 ype, .int .i64 yse, .int .u64 (ybw : Int), .int .i64 ysu, .int .i64 yho, .int .u32 (yan : Int), .int .u32 (yal : Int), .int .u32 (yno : Int), .slice yra yrn yrc, .slice yoa yon yoc, .int .i64 ylb, .int .i64 ywh, .int .i64 yco]).toArray 37)
  have hby := Blk.new (w.alloc (.cells ([.int .i64 xty, .int .i64 xtl, .int .i64 xkt, .int .i64 xku, .int .i64 xkh, .int .i64 xkl, .int .i64 xfr, .int .i64 xpe, .int .i64 xse, .int .u64 (xbw : Int), .int .i64 xsu, .int .i64 xho, .int .u32 (xan : Int), .int .u32 (xal : Int), .int .u32 (xno : Int), .slice xra xrn xrc, .slice xoa xon xoc, .int .i64 xlb, .int .i64 xwh, .int .i64 xco]).toArray 37)) 37 [.int .i64 yty, .int .i64 ytl, .int .i64 ykt, .int .i64 yku, .int .i64 ykh, .int .i64 ykl, .int .i64 yfr, .int .i64 ype, .int .i64 yse, .int .u64 (ybw : Int), .int .i64 ysu, .int .i64 yho, .int .u32 (yan : Int), .int .u32 (yal : Int), .int .u32 (yno : Int), .slice yra yrn yrc, .slice yoa yon yoc, .int .i64 ylb, .int .i64 ywh, .int .i64 yco]
  have bel := bel_new (bel_new (Below.refl w.heap.size w) (.cells ([.int .i64 xty, .int .i64 xtl, .int .i64 xkt, .int .i64 xku, .int .i64 xkh, .int .i64 xkl, .int .i64 xfr, .int .i64 xpe, .int .i64 xse, .int .u64 (xbw : Int), .int .i64 xsu, .int .i64 xho, .int .u32 (xan : Int), .int .u32 (xal : Int), .int .u32 (xno : Int), .slice xra xrn xrc, .slice xoa xon xoc, .int .i64 xlb, .int .i64 xwh, .int .i64 xco]).toArray 37)) (.cells ([.int .i64 yty, .int .i64 ytl, .int .i64 ykt, .int .i64 yku, .int .i64 ykh, .int .i64 ykl, .int .i64 yfr, .int .i64 ype, .int .i64 yse, .int .u64 (ybw : Int), .int .i64 ysu, .int .i64 yho, .int .u32 (yan : Int), .int .u32 (yal : Int), .int .u32 (yno : Int), .slice yra yrn yrc, .slice yoa yon yoc, .int .i64 ylb, .int .i64 ywh, .int .i64 yco]).toArray 37)
  have HC := Lib.hid (equal8_calls xra yra xrn yrn xrc yrc xr yr _ _ _ (h.row.below (bel.mono hB)) (h2.row.below (bel.mono hB2)) (Nat.le_trans hB bel.size) (Nat.le_trans hB2 bel.size) h.len h2.len)
  have HBel := Lib.hid bel
  have HX := Lib.hid hbx
  have HY := Lib.hid hby
  have H1 := Lib.hid (h.below (bel.mono hB))
  have H2 := Lib.hid (h2.below (bel.mono hB2))
  have SB := Lib.hid (Nat.le_trans hB bel.size)
  have SB2 := Lib.hid (Nat.le_trans hB2 bel.size)
  clear h h2 bel hB hB2 hbx hby
  go_enter Try.func26, Try.ntmps26
  go_wp2_with fail
  all_goals try
    (go_ret
     have hs : PMs.same ⟨xty, xtl, xkt, xku, xkh, xkl, xfr, xpe, xse, ⟨xbw, xsu, xho, xan, xal, xno⟩, xr, xo, xlb, xwh, xco⟩ ⟨yty, ytl, ykt, yku, ykh, ykl, yfr, ype, yse, ⟨ybw, ysu, yho, yan, yal, yno⟩, yr, yo, ylb, ywh, yco⟩ = false := Bool.eq_false_iff.2 (fun hs => by have h8 := (PMs.same_iff _ _).1 hs; simp only [PMs.mk.injEq, Wnt.mk.injEq] at h8; omega)
     exact ⟨by rw [hs]; first | done | rfl, bel_new (bel_new (Below.refl _ _) _) _⟩)
  have E : xty = yty ∧ xtl = ytl ∧ xkt = ykt ∧ xku = yku ∧ xkh = ykh ∧ xkl = ykl ∧ xfr = yfr ∧ xpe = ype ∧ xse = yse ∧ xbw = ybw ∧ xsu = ysu ∧ xho = yho ∧ xan = yan ∧ xal = yal ∧ xno = yno := by
    refine ⟨?_, ?_, ?_, ?_, ?_, ?_, ?_, ?_, ?_, ?_, ?_, ?_, ?_, ?_, ?_⟩ <;> omega
  obtain ⟨rfl, rfl, rfl, rfl, rfl, rfl, rfl, rfl, rfl, rfl, rfl, rfl, rfl, rfl, rfl⟩ := E
  ((with_reducible refine HC.out.mono ?_))
  rintro e w1 ⟨rfl, hb1⟩
  have HX1 := Lib.hid (HX.out.below hb1)
  have HY1 := Lib.hid (HY.out.below hb1)
  have HB1 := Lib.hid (bel_more HBel.out (Nat.le_refl _) hb1)
  have hc2 := equal8_calls xoa yoa xon yon xoc yoc xo yo _ _ _ (H1.out.row2.below (hb1.mono SB.out)) (H2.out.row2.below (hb1.mono SB2.out)) (Nat.le_trans SB.out hb1.size) (Nat.le_trans SB2.out hb1.size) H1.out.len2 H2.out.len2
  clear HC HX HY HBel H1 H2 SB SB2 hb1
  simp only [World.size_alloc] at HX1 HY1
  cases hl : (xr == yr)
  · have HS := Lib.hid (show PMs.same ⟨xty, xtl, xkt, xku, xkh, xkl, xfr, xpe, xse, ⟨xbw, xsu, xho, xan, xal, xno⟩, xr, xo, xlb, xwh, xco⟩ ⟨xty, xtl, xkt, xku, xkh, xkl, xfr, xpe, xse, ⟨xbw, xsu, xho, xan, xal, xno⟩, yr, yo, ylb, ywh, yco⟩ = false from Bool.eq_false_iff.2 (fun hs => by
      have h8 := congrArg PMs.r ((PMs.same_iff _ _).1 hs)
      simp only at h8
      rw [h8] at hl
      simp at hl))
    clear hc2 hl HX1 HY1
    go_wp2
    go_ret
    rw [HS.out]
    exact ⟨rfl, HB1.out⟩
  · have HL := Lib.hid hl
    clear hl
    have a16 := HX1.out.cell 16
    have b16 := HY1.out.cell 16
    simp only [List.getElem?_cons_zero, List.getElem?_cons_succ] at a16 b16
    go_wp2_with fail
    ((with_reducible refine hc2.mono ?_))
    rintro e w2 ⟨rfl, hb2⟩
    have HX2 := HX1.out.below hb2
    have HY2 := HY1.out.below hb2
    have HB2 := Lib.hid (bel_more HB1.out (Nat.le_refl _) hb2)
    clear hc2 HX1 HY1 HB1 hb2 a16 b16
    have a17 := HX2.cell 17
    have b17 := HY2.cell 17
    have a18 := HX2.cell 18
    have b18 := HY2.cell 18
    have a19 := HX2.cell 19
    have b19 := HY2.cell 19
    simp only [List.getElem?_cons_zero, List.getElem?_cons_succ] at a17 b17 a18 b18 a19 b19
    clear HX2 HY2
    cases hm : (xo == yo)
    · have HS := Lib.hid (show PMs.same ⟨xty, xtl, xkt, xku, xkh, xkl, xfr, xpe, xse, ⟨xbw, xsu, xho, xan, xal, xno⟩, xr, xo, xlb, xwh, xco⟩ ⟨xty, xtl, xkt, xku, xkh, xkl, xfr, xpe, xse, ⟨xbw, xsu, xho, xan, xal, xno⟩, yr, yo, ylb, ywh, yco⟩ = false from Bool.eq_false_iff.2 (fun hs => by
        have h8 := congrArg PMs.o ((PMs.same_iff _ _).1 hs)
        simp only at h8
        rw [h8] at hm
        simp at hm))
      clear hm
      go_wp2
      go_ret
      rw [HS.out]
      exact ⟨rfl, HB2.out⟩
    · have HM := Lib.hid hm
      clear hm
      go_wp2
      all_goals go_ret
      all_goals first
        | (have hs : PMs.same ⟨xty, xtl, xkt, xku, xkh, xkl, xfr, xpe, xse, ⟨xbw, xsu, xho, xan, xal, xno⟩, xr, xo, xlb, xwh, xco⟩ ⟨xty, xtl, xkt, xku, xkh, xkl, xfr, xpe, xse, ⟨xbw, xsu, xho, xan, xal, xno⟩, yr, yo, ylb, ywh, yco⟩ = false := Bool.eq_false_iff.2 (fun hs => by have h8 := (PMs.same_iff _ _).1 hs; simp only [PMs.mk.injEq] at h8; omega)
           exact ⟨by rw [hs]; first | done | rfl, HB2.out⟩)
        | (have hs : PMs.same ⟨xty, xtl, xkt, xku, xkh, xkl, xfr, xpe, xse, ⟨xbw, xsu, xho, xan, xal, xno⟩, xr, xo, xlb, xwh, xco⟩ ⟨xty, xtl, xkt, xku, xkh, xkl, xfr, xpe, xse, ⟨xbw, xsu, xho, xan, xal, xno⟩, yr, yo, ylb, ywh, yco⟩ = (xco == yco) := by
             have h1 := HL.out
             have h2 := HM.out
             simp only [beq_iff_eq] at h1 h2
             have e1 : xlb = ylb := by omega
             have e2 : xwh = ywh := by omega
             rw [h1, h2, e1, e2]
             simp [PMs.same, Wnt.same]
           exact ⟨by rw [hs]; first | done | rfl, HB2.out⟩)
end Go.Proofs.Ythmgpffpiggomaa
