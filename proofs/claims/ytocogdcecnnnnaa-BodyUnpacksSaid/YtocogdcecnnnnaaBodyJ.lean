/-
  Contracts of what the statements of layer 7 do to items and objects: Ours, Theirs, ours, theirs. No condition.
-/
import Derived.Test.YtocogdcecnnnnaaBodyI
namespace Go.Proofs.Ytocogdcecnnnnaa
open Go.RowKit

/-- The same item is answered. -/
def ConvPost (w : World) (x : It) (e : Ending) (w' : World) : Prop := e = .returned (.agg x.cells.toArray) ∧ Below w.heap.size w w'

set_option maxRecDepth 100000 in
set_option maxHeartbeats 1600000 in
theorem theirs7_calls (x : It) (w : World) : Calls Try.prog 10 #[.agg x.cells.toArray] w (ConvPost w x) := by
  obtain ⟨xcl, xa, xb, xc, xu, xla, xln, xlc, xl, xbw, xsu, xho, xan, xal, xno⟩ := x
  have hn1 := Blk.new (w.alloc (.cells ([.int .i64 xcl, .int .i64 xa, .int .i64 xb, .int .i64 xc, .int .u64 (xu : Int), .slice xla xln xlc, .int .u64 (xbw : Int), .int .i64 xsu, .int .i64 xho, .int .u32 (xan : Int), .int .u32 (xal : Int), .int .u32 (xno : Int)]).toArray 28)) 36 [.int .i64 0, .int .i64 0, .int .i64 0, .int .i64 0, .int .u64 0, .slice none 0 0, .int .u64 0, .int .i64 0, .int .i64 0, .int .u32 0, .int .u32 0, .int .u32 0]
  simp only [World.size_alloc] at hn1
  have H0 := Lib.hid ((Blk.new w 28 [.int .i64 xcl, .int .i64 xa, .int .i64 xb, .int .i64 xc, .int .u64 (xu : Int), .slice xla xln xlc, .int .u64 (xbw : Int), .int .i64 xsu, .int .i64 xho, .int .u32 (xan : Int), .int .u32 (xal : Int), .int .u32 (xno : Int)]).alloc (.cells ([.int .i64 0, .int .i64 0, .int .i64 0, .int .i64 0, .int .u64 0, .slice none 0 0, .int .u64 0, .int .i64 0, .int .i64 0, .int .u32 0, .int .u32 0, .int .u32 0] : List Value).toArray 36))
  have H1 := Lib.hid hn1
  have HB := Lib.hid (bel_new (bel_new (Below.refl w.heap.size w) (.cells ([.int .i64 xcl, .int .i64 xa, .int .i64 xb, .int .i64 xc, .int .u64 (xu : Int), .slice xla xln xlc, .int .u64 (xbw : Int), .int .i64 xsu, .int .i64 xho, .int .u32 (xan : Int), .int .u32 (xal : Int), .int .u32 (xno : Int)]).toArray 28)) (.cells ([.int .i64 0, .int .i64 0, .int .i64 0, .int .i64 0, .int .u64 0, .slice none 0 0, .int .u64 0, .int .i64 0, .int .i64 0, .int .u32 0, .int .u32 0, .int .u32 0] : List Value).toArray 36))
  clear hn1
  simp only [It.cells]
  go_enter Try.func10, Try.ntmps10
  go_upto_region 1 with fail
  revert H0 H1 HB
  generalize World.alloc (World.alloc w _) _ = W1
  intro H0 H1 HB
  have r0 := H1.out.cell 0
  have g0 := H1.out.free 0
  have b0 := H0.out.cell 0
  have r1 := H1.out.cell 1
  have g1 := H1.out.free 1
  have b1 := H0.out.cell 1
  have r2 := H1.out.cell 2
  have g2 := H1.out.free 2
  have b2 := H0.out.cell 2
  have r3 := H1.out.cell 3
  have g3 := H1.out.free 3
  have b3 := H0.out.cell 3
  have r4 := H1.out.cell 4
  have g4 := H1.out.free 4
  have b4 := H0.out.cell 4
  have r5 := H1.out.cell 5
  have g5 := H1.out.free 5
  have b5 := H0.out.cell 5
  have r6 := H1.out.cell 6
  have g6 := H1.out.free 6
  have b6 := H0.out.cell 6
  have r7 := H1.out.cell 7
  have g7 := H1.out.free 7
  have b7 := H0.out.cell 7
  have r8 := H1.out.cell 8
  have g8 := H1.out.free 8
  have b8 := H0.out.cell 8
  have r9 := H1.out.cell 9
  have g9 := H1.out.free 9
  have b9 := H0.out.cell 9
  have r10 := H1.out.cell 10
  have g10 := H1.out.free 10
  have b10 := H0.out.cell 10
  have r11 := H1.out.cell 11
  have g11 := H1.out.free 11
  have b11 := H0.out.cell 11
  simp only [List.getElem?_cons_zero, List.getElem?_cons_succ] at r0 b0 r1 b1 r2 b2 r3 b3 r4 b4 r5 b5 r6 b6 r7 b7 r8 b8 r9 b9 r10 b10 r11 b11
  go_wp2
  clear r0 b0 r1 b1 r2 b2 r3 b3 r4 b4 r5 b5 r6 b6 r7 b7 r8 b8 r9 b9 r10 b10 r11 b11 g0 g1 g2 g3 g4 g5 g6 g7 g8 g9 g10 g11
  have HO := Lib.hid (item_put HB.out (by omega) H1.out (.int .i64 xcl) (.int .i64 xa) (.int .i64 xb) (.int .i64 xc) (.int .u64 (xu : Int)) (.slice xla xln xlc) (.int .u64 (xbw : Int)) (.int .i64 xsu) (.int .i64 xho) (.int .u32 (xan : Int)) (.int .u32 (xal : Int)) (.int .u32 (xno : Int)))
  revert HO
  generalize World.setCell (World.setCell (World.setCell (World.setCell (World.setCell (World.setCell (World.setCell (World.setCell (World.setCell (World.setCell (World.setCell (World.setCell W1 _ _) _ _) _ _) _ _) _ _) _ _) _ _) _ _) _ _) _ _) _ _) _ _ = W6
  intro HO
  have y0 := HO.out.1.cell 0
  have y1 := HO.out.1.cell 1
  have y2 := HO.out.1.cell 2
  have y3 := HO.out.1.cell 3
  have y4 := HO.out.1.cell 4
  have y5 := HO.out.1.cell 5
  have y6 := HO.out.1.cell 6
  have y7 := HO.out.1.cell 7
  have y8 := HO.out.1.cell 8
  have y9 := HO.out.1.cell 9
  have y10 := HO.out.1.cell 10
  have y11 := HO.out.1.cell 11
  simp only [List.getElem?_cons_zero, List.getElem?_cons_succ] at y0 y1 y2 y3 y4 y5 y6 y7 y8 y9 y10 y11
  refine bodyPost_ret (v := .agg #[.int .i64 xcl, .int .i64 xa, .int .i64 xb, .int .i64 xc, .int .u64 (xu : Int), .slice xla xln xlc, .int .u64 (xbw : Int), .int .i64 xsu, .int .i64 xho, .int .u32 (xan : Int), .int .u32 (xal : Int), .int .u32 (xno : Int)]) (by simp [results, Try.results10, go_sem, y0, y1, y2, y3, y4, y5, y6, y7, y8, y9, y10, y11]) rfl ?_
  exact ⟨rfl, HO.out.2.1⟩

set_option maxRecDepth 100000 in
set_option maxHeartbeats 1600000 in
theorem ours7_calls (x : It) (w : World) : Calls Try.prog 18 #[.agg x.cells.toArray] w (ConvPost w x) := by
  obtain ⟨xcl, xa, xb, xc, xu, xla, xln, xlc, xl, xbw, xsu, xho, xan, xal, xno⟩ := x
  have hn1 := Blk.new (w.alloc (.cells ([.int .i64 xcl, .int .i64 xa, .int .i64 xb, .int .i64 xc, .int .u64 (xu : Int), .slice xla xln xlc, .int .u64 (xbw : Int), .int .i64 xsu, .int .i64 xho, .int .u32 (xan : Int), .int .u32 (xal : Int), .int .u32 (xno : Int)]).toArray 36)) 28 [.int .i64 0, .int .i64 0, .int .i64 0, .int .i64 0, .int .u64 0, .slice none 0 0, .int .u64 0, .int .i64 0, .int .i64 0, .int .u32 0, .int .u32 0, .int .u32 0]
  simp only [World.size_alloc] at hn1
  have H0 := Lib.hid ((Blk.new w 36 [.int .i64 xcl, .int .i64 xa, .int .i64 xb, .int .i64 xc, .int .u64 (xu : Int), .slice xla xln xlc, .int .u64 (xbw : Int), .int .i64 xsu, .int .i64 xho, .int .u32 (xan : Int), .int .u32 (xal : Int), .int .u32 (xno : Int)]).alloc (.cells ([.int .i64 0, .int .i64 0, .int .i64 0, .int .i64 0, .int .u64 0, .slice none 0 0, .int .u64 0, .int .i64 0, .int .i64 0, .int .u32 0, .int .u32 0, .int .u32 0] : List Value).toArray 28))
  have H1 := Lib.hid hn1
  have HB := Lib.hid (bel_new (bel_new (Below.refl w.heap.size w) (.cells ([.int .i64 xcl, .int .i64 xa, .int .i64 xb, .int .i64 xc, .int .u64 (xu : Int), .slice xla xln xlc, .int .u64 (xbw : Int), .int .i64 xsu, .int .i64 xho, .int .u32 (xan : Int), .int .u32 (xal : Int), .int .u32 (xno : Int)]).toArray 36)) (.cells ([.int .i64 0, .int .i64 0, .int .i64 0, .int .i64 0, .int .u64 0, .slice none 0 0, .int .u64 0, .int .i64 0, .int .i64 0, .int .u32 0, .int .u32 0, .int .u32 0] : List Value).toArray 28))
  clear hn1
  simp only [It.cells]
  go_enter Try.func18, Try.ntmps18
  go_upto_region 1 with fail
  revert H0 H1 HB
  generalize World.alloc (World.alloc w _) _ = W1
  intro H0 H1 HB
  have r0 := H1.out.cell 0
  have g0 := H1.out.free 0
  have b0 := H0.out.cell 0
  have r1 := H1.out.cell 1
  have g1 := H1.out.free 1
  have b1 := H0.out.cell 1
  have r2 := H1.out.cell 2
  have g2 := H1.out.free 2
  have b2 := H0.out.cell 2
  have r3 := H1.out.cell 3
  have g3 := H1.out.free 3
  have b3 := H0.out.cell 3
  have r4 := H1.out.cell 4
  have g4 := H1.out.free 4
  have b4 := H0.out.cell 4
  have r5 := H1.out.cell 5
  have g5 := H1.out.free 5
  have b5 := H0.out.cell 5
  have r6 := H1.out.cell 6
  have g6 := H1.out.free 6
  have b6 := H0.out.cell 6
  have r7 := H1.out.cell 7
  have g7 := H1.out.free 7
  have b7 := H0.out.cell 7
  have r8 := H1.out.cell 8
  have g8 := H1.out.free 8
  have b8 := H0.out.cell 8
  have r9 := H1.out.cell 9
  have g9 := H1.out.free 9
  have b9 := H0.out.cell 9
  have r10 := H1.out.cell 10
  have g10 := H1.out.free 10
  have b10 := H0.out.cell 10
  have r11 := H1.out.cell 11
  have g11 := H1.out.free 11
  have b11 := H0.out.cell 11
  simp only [List.getElem?_cons_zero, List.getElem?_cons_succ] at r0 b0 r1 b1 r2 b2 r3 b3 r4 b4 r5 b5 r6 b6 r7 b7 r8 b8 r9 b9 r10 b10 r11 b11
  go_wp2
  clear r0 b0 r1 b1 r2 b2 r3 b3 r4 b4 r5 b5 r6 b6 r7 b7 r8 b8 r9 b9 r10 b10 r11 b11 g0 g1 g2 g3 g4 g5 g6 g7 g8 g9 g10 g11
  have HO := Lib.hid (item_put HB.out (by omega) H1.out (.int .i64 xcl) (.int .i64 xa) (.int .i64 xb) (.int .i64 xc) (.int .u64 (xu : Int)) (.slice xla xln xlc) (.int .u64 (xbw : Int)) (.int .i64 xsu) (.int .i64 xho) (.int .u32 (xan : Int)) (.int .u32 (xal : Int)) (.int .u32 (xno : Int)))
  revert HO
  generalize World.setCell (World.setCell (World.setCell (World.setCell (World.setCell (World.setCell (World.setCell (World.setCell (World.setCell (World.setCell (World.setCell (World.setCell W1 _ _) _ _) _ _) _ _) _ _) _ _) _ _) _ _) _ _) _ _) _ _) _ _ = W6
  intro HO
  have y0 := HO.out.1.cell 0
  have y1 := HO.out.1.cell 1
  have y2 := HO.out.1.cell 2
  have y3 := HO.out.1.cell 3
  have y4 := HO.out.1.cell 4
  have y5 := HO.out.1.cell 5
  have y6 := HO.out.1.cell 6
  have y7 := HO.out.1.cell 7
  have y8 := HO.out.1.cell 8
  have y9 := HO.out.1.cell 9
  have y10 := HO.out.1.cell 10
  have y11 := HO.out.1.cell 11
  simp only [List.getElem?_cons_zero, List.getElem?_cons_succ] at y0 y1 y2 y3 y4 y5 y6 y7 y8 y9 y10 y11
  refine bodyPost_ret (v := .agg #[.int .i64 xcl, .int .i64 xa, .int .i64 xb, .int .i64 xc, .int .u64 (xu : Int), .slice xla xln xlc, .int .u64 (xbw : Int), .int .i64 xsu, .int .i64 xho, .int .u32 (xan : Int), .int .u32 (xal : Int), .int .u32 (xno : Int)]) (by simp [results, Try.results18, go_sem, y0, y1, y2, y3, y4, y5, y6, y7, y8, y9, y10, y11]) rfl ?_
  exact ⟨rfl, HO.out.2.1⟩

set_option maxHeartbeats 800000 in
theorem oours_calls (cl ty : Int) (a : Option Addr) (n c : Nat) (w : World) : Calls Try.prog 13 #[.agg #[.int .i64 cl, .int .i64 ty, .slice a n c]] w fun e w' => e = .returned (.agg #[.int .i64 cl, .int .i64 ty, .slice a n c]) ∧ Below w.heap.size w w' := by
  have hn1 := Blk.new (w.alloc (.cells ([.int .i64 cl, .int .i64 ty, .slice a n c] : List Value).toArray 32)) 38 [.int .i64 0, .int .i64 0, .slice none 0 0]
  simp only [World.size_alloc] at hn1
  have H0 := Lib.hid ((Blk.new w 32 [.int .i64 cl, .int .i64 ty, .slice a n c]).alloc (.cells ([.int .i64 0, .int .i64 0, .slice none 0 0] : List Value).toArray 38))
  have H1 := Lib.hid hn1
  have HB := Lib.hid (bel_new (bel_new (Below.refl w.heap.size w) (.cells ([.int .i64 cl, .int .i64 ty, .slice a n c] : List Value).toArray 32)) (.cells ([.int .i64 0, .int .i64 0, .slice none 0 0] : List Value).toArray 38))
  clear hn1
  go_enter Try.func13, Try.ntmps13
  go_upto_region 1 with fail
  revert H0 H1 HB
  generalize World.alloc (World.alloc w _) _ = W1
  intro H0 H1 HB
  have r0 := H1.out.cell 0
  have r1 := H1.out.cell 1
  have r2 := H1.out.cell 2
  have g0 := H1.out.free 0
  have g1 := H1.out.free 1
  have g2 := H1.out.free 2
  have b0 := H0.out.cell 0
  have b1 := H0.out.cell 1
  have b2 := H0.out.cell 2
  simp only [List.getElem?_cons_zero, List.getElem?_cons_succ] at r0 r1 r2 b0 b1 b2
  go_wp2
  clear r0 r1 r2 b0 b1 b2 g0 g1 g2
  have HO := Lib.hid (obj_put HB.out (by omega) H1.out (.int .i64 cl) (.int .i64 ty) (.slice a n c))
  revert HO
  generalize World.setCell (World.setCell (World.setCell W1 _ _) _ _) _ _ = W6
  intro HO
  have y0 := HO.out.1.cell 0
  have y1 := HO.out.1.cell 1
  have y2 := HO.out.1.cell 2
  simp only [List.getElem?_cons_zero, List.getElem?_cons_succ] at y0 y1 y2
  refine bodyPost_ret (v := .agg #[.int .i64 cl, .int .i64 ty, .slice a n c]) (by simp [results, Try.results13, go_sem, y0, y1, y2]) rfl ?_
  exact ⟨rfl, HO.out.2.1⟩

set_option maxHeartbeats 800000 in
theorem otheirs_calls (cl ty : Int) (a : Option Addr) (n c : Nat) (w : World) : Calls Try.prog 15 #[.agg #[.int .i64 cl, .int .i64 ty, .slice a n c]] w fun e w' => e = .returned (.agg #[.int .i64 cl, .int .i64 ty, .slice a n c]) ∧ Below w.heap.size w w' := by
  have hn1 := Blk.new (w.alloc (.cells ([.int .i64 cl, .int .i64 ty, .slice a n c] : List Value).toArray 38)) 32 [.int .i64 0, .int .i64 0, .slice none 0 0]
  simp only [World.size_alloc] at hn1
  have H0 := Lib.hid ((Blk.new w 38 [.int .i64 cl, .int .i64 ty, .slice a n c]).alloc (.cells ([.int .i64 0, .int .i64 0, .slice none 0 0] : List Value).toArray 32))
  have H1 := Lib.hid hn1
  have HB := Lib.hid (bel_new (bel_new (Below.refl w.heap.size w) (.cells ([.int .i64 cl, .int .i64 ty, .slice a n c] : List Value).toArray 38)) (.cells ([.int .i64 0, .int .i64 0, .slice none 0 0] : List Value).toArray 32))
  clear hn1
  go_enter Try.func15, Try.ntmps15
  go_upto_region 1 with fail
  revert H0 H1 HB
  generalize World.alloc (World.alloc w _) _ = W1
  intro H0 H1 HB
  have r0 := H1.out.cell 0
  have r1 := H1.out.cell 1
  have r2 := H1.out.cell 2
  have g0 := H1.out.free 0
  have g1 := H1.out.free 1
  have g2 := H1.out.free 2
  have b0 := H0.out.cell 0
  have b1 := H0.out.cell 1
  have b2 := H0.out.cell 2
  simp only [List.getElem?_cons_zero, List.getElem?_cons_succ] at r0 r1 r2 b0 b1 b2
  go_wp2
  clear r0 r1 r2 b0 b1 b2 g0 g1 g2
  have HO := Lib.hid (obj_put HB.out (by omega) H1.out (.int .i64 cl) (.int .i64 ty) (.slice a n c))
  revert HO
  generalize World.setCell (World.setCell (World.setCell W1 _ _) _ _) _ _ = W6
  intro HO
  have y0 := HO.out.1.cell 0
  have y1 := HO.out.1.cell 1
  have y2 := HO.out.1.cell 2
  simp only [List.getElem?_cons_zero, List.getElem?_cons_succ] at y0 y1 y2
  refine bodyPost_ret (v := .agg #[.int .i64 cl, .int .i64 ty, .slice a n c]) (by simp [results, Try.results15, go_sem, y0, y1, y2]) rfl ?_
  exact ⟨rfl, HO.out.2.1⟩
end Go.Proofs.Ytocogdcecnnnnaa
