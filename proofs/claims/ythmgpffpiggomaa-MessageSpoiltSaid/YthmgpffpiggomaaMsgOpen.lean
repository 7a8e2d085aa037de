/-
  How an argument that is a message of the document's is opened. No condition.
-/
import Derived.Test.YthmgpffpiggomaaBodyOpen
import Derived.Test.YthmgpffpiggomaaMsgB
namespace Go.Proofs.Ythmgpffpiggomaa
open Go.RowKit Go.ChangeShapes Go.WideShapes Go.ChangeAt Go.Deep
set_option maxRecDepth 100000

theorem cellsMsg8 : Try.prog.cellsOf 30 = 20 := by kernel_rfl
theorem cellsKey8 : Try.prog.cellsOf 23 = 4 := by kernel_rfl
theorem list_twenty (cs : List Value) (h : cs.length = 20) : ∃ u0 u1 u2 u3 u4 u5 u6 u7 u8 u9 u10 u11 u12 u13 u14 u15 u16 u17 u18 u19, cs = [u0, u1, u2, u3, u4, u5, u6, u7, u8, u9, u10, u11, u12, u13, u14, u15, u16, u17, u18, u19] := by
  match cs, h with
  | [u0, u1, u2, u3, u4, u5, u6, u7, u8, u9, u10, u11, u12, u13, u14, u15, u16, u17, u18, u19], _ => exact ⟨u0, u1, u2, u3, u4, u5, u6, u7, u8, u9, u10, u11, u12, u13, u14, u15, u16, u17, u18, u19, rfl⟩

theorem msg_cells {H : Type} {enc : TypeId × Value → H} {W : World} {base : Nat} {spare : Nat → Bool} {held : Bool} {fuel : Nat} {y : DataW H × List MemPlace} {cs : List Value} (hsp : ∀ b, spare b = true) (hl : cs.length = 20)
    (h : DataW.trod enc Try.prog W base spare held fuel 30 cs = some y) : ∃ x : Ms, cs = x.cells ∧ FineM W W.heap.size x := by
  obtain ⟨xs, m, _, _, _, hxl, hf⟩ := DataW.trod_struct Try.underlying30 h
  obtain ⟨u0, u1, u2, u3, u4, u5, u6, u7, u8, u9, u10, u11, u12, u13, u14, u15, u16, u17, u18, u19, rfl⟩ := list_twenty cs hl
  have g0 : DataW.trod enc Try.prog W base spare held m 3 (([u0, u1, u2, u3, u4, u5, u6, u7, u8, u9, u10, u11, u12, u13, u14, u15, u16, u17, u18, u19].drop 0).take (Try.prog.cellsOf 3)) = xs[0]? := hf 0 _ rfl
  have l0 : xs[0]? = some (xs[0]'(by rw [hxl]; decide)) := List.getElem?_eq_getElem _
  rw [l0, cellsInt6] at g0
  have g1 : DataW.trod enc Try.prog W base spare held m 3 (([u0, u1, u2, u3, u4, u5, u6, u7, u8, u9, u10, u11, u12, u13, u14, u15, u16, u17, u18, u19].drop 1).take (Try.prog.cellsOf 3)) = xs[1]? := hf 1 _ rfl
  have l1 : xs[1]? = some (xs[1]'(by rw [hxl]; decide)) := List.getElem?_eq_getElem _
  rw [l1, cellsInt6] at g1
  have g2 : DataW.trod enc Try.prog W base spare held m 23 (([u0, u1, u2, u3, u4, u5, u6, u7, u8, u9, u10, u11, u12, u13, u14, u15, u16, u17, u18, u19].drop 2).take (Try.prog.cellsOf 23)) = xs[2]? := hf 2 _ rfl
  have l2 : xs[2]? = some (xs[2]'(by rw [hxl]; decide)) := List.getElem?_eq_getElem _
  rw [l2, cellsKey8] at g2
  have g3 : DataW.trod enc Try.prog W base spare held m 3 (([u0, u1, u2, u3, u4, u5, u6, u7, u8, u9, u10, u11, u12, u13, u14, u15, u16, u17, u18, u19].drop 6).take (Try.prog.cellsOf 3)) = xs[3]? := hf 3 _ rfl
  have l3 : xs[3]? = some (xs[3]'(by rw [hxl]; decide)) := List.getElem?_eq_getElem _
  rw [l3, cellsInt6] at g3
  have g4 : DataW.trod enc Try.prog W base spare held m 3 (([u0, u1, u2, u3, u4, u5, u6, u7, u8, u9, u10, u11, u12, u13, u14, u15, u16, u17, u18, u19].drop 7).take (Try.prog.cellsOf 3)) = xs[4]? := hf 4 _ rfl
  have l4 : xs[4]? = some (xs[4]'(by rw [hxl]; decide)) := List.getElem?_eq_getElem _
  rw [l4, cellsInt6] at g4
  have g5 : DataW.trod enc Try.prog W base spare held m 3 (([u0, u1, u2, u3, u4, u5, u6, u7, u8, u9, u10, u11, u12, u13, u14, u15, u16, u17, u18, u19].drop 8).take (Try.prog.cellsOf 3)) = xs[5]? := hf 5 _ rfl
  have l5 : xs[5]? = some (xs[5]'(by rw [hxl]; decide)) := List.getElem?_eq_getElem _
  rw [l5, cellsInt6] at g5
  have g6 : DataW.trod enc Try.prog W base spare held m 27 (([u0, u1, u2, u3, u4, u5, u6, u7, u8, u9, u10, u11, u12, u13, u14, u15, u16, u17, u18, u19].drop 9).take (Try.prog.cellsOf 27)) = xs[6]? := hf 6 _ rfl
  have l6 : xs[6]? = some (xs[6]'(by rw [hxl]; decide)) := List.getElem?_eq_getElem _
  rw [l6, cellsWant7] at g6
  have g7 : DataW.trod enc Try.prog W base spare held m 28 (([u0, u1, u2, u3, u4, u5, u6, u7, u8, u9, u10, u11, u12, u13, u14, u15, u16, u17, u18, u19].drop 15).take (Try.prog.cellsOf 28)) = xs[7]? := hf 7 _ rfl
  have l7 : xs[7]? = some (xs[7]'(by rw [hxl]; decide)) := List.getElem?_eq_getElem _
  rw [l7, cellsInts7] at g7
  have g8 : DataW.trod enc Try.prog W base spare held m 28 (([u0, u1, u2, u3, u4, u5, u6, u7, u8, u9, u10, u11, u12, u13, u14, u15, u16, u17, u18, u19].drop 16).take (Try.prog.cellsOf 28)) = xs[8]? := hf 8 _ rfl
  have l8 : xs[8]? = some (xs[8]'(by rw [hxl]; decide)) := List.getElem?_eq_getElem _
  rw [l8, cellsInts7] at g8
  have g9 : DataW.trod enc Try.prog W base spare held m 3 (([u0, u1, u2, u3, u4, u5, u6, u7, u8, u9, u10, u11, u12, u13, u14, u15, u16, u17, u18, u19].drop 17).take (Try.prog.cellsOf 3)) = xs[9]? := hf 9 _ rfl
  have l9 : xs[9]? = some (xs[9]'(by rw [hxl]; decide)) := List.getElem?_eq_getElem _
  rw [l9, cellsInt6] at g9
  have g10 : DataW.trod enc Try.prog W base spare held m 3 (([u0, u1, u2, u3, u4, u5, u6, u7, u8, u9, u10, u11, u12, u13, u14, u15, u16, u17, u18, u19].drop 18).take (Try.prog.cellsOf 3)) = xs[10]? := hf 10 _ rfl
  have l10 : xs[10]? = some (xs[10]'(by rw [hxl]; decide)) := List.getElem?_eq_getElem _
  rw [l10, cellsInt6] at g10
  have g11 : DataW.trod enc Try.prog W base spare held m 3 (([u0, u1, u2, u3, u4, u5, u6, u7, u8, u9, u10, u11, u12, u13, u14, u15, u16, u17, u18, u19].drop 19).take (Try.prog.cellsOf 3)) = xs[11]? := hf 11 _ rfl
  have l11 : xs[11]? = some (xs[11]'(by rw [hxl]; decide)) := List.getElem?_eq_getElem _
  rw [l11, cellsInt6] at g11
  obtain ⟨n0, hn0, _, _⟩ := DataW.trod_int Try.underlying3 g0
  obtain ⟨n1, hn1, _, _⟩ := DataW.trod_int Try.underlying3 g1
  obtain ⟨ys, ym, _, _, _, yl, yf⟩ := DataW.trod_struct Try.underlying23 g2
  have yk0 : DataW.trod enc Try.prog W base spare held ym 3 (([u2, u3, u4, u5].drop 0).take (Try.prog.cellsOf 3)) = ys[0]? := yf 0 _ rfl
  have yj0 : ys[0]? = some (ys[0]'(by rw [yl]; decide)) := List.getElem?_eq_getElem _
  rw [yj0, cellsInt6] at yk0
  obtain ⟨n2, hn2, _, w2⟩ := DataW.trod_int Try.underlying3 yk0
  have yk1 : DataW.trod enc Try.prog W base spare held ym 3 (([u2, u3, u4, u5].drop 1).take (Try.prog.cellsOf 3)) = ys[1]? := yf 1 _ rfl
  have yj1 : ys[1]? = some (ys[1]'(by rw [yl]; decide)) := List.getElem?_eq_getElem _
  rw [yj1, cellsInt6] at yk1
  obtain ⟨n3, hn3, _, w3⟩ := DataW.trod_int Try.underlying3 yk1
  have yk2 : DataW.trod enc Try.prog W base spare held ym 3 (([u2, u3, u4, u5].drop 2).take (Try.prog.cellsOf 3)) = ys[2]? := yf 2 _ rfl
  have yj2 : ys[2]? = some (ys[2]'(by rw [yl]; decide)) := List.getElem?_eq_getElem _
  rw [yj2, cellsInt6] at yk2
  obtain ⟨n4, hn4, _, w4⟩ := DataW.trod_int Try.underlying3 yk2
  have yk3 : DataW.trod enc Try.prog W base spare held ym 3 (([u2, u3, u4, u5].drop 3).take (Try.prog.cellsOf 3)) = ys[3]? := yf 3 _ rfl
  have yj3 : ys[3]? = some (ys[3]'(by rw [yl]; decide)) := List.getElem?_eq_getElem _
  rw [yj3, cellsInt6] at yk3
  obtain ⟨n5, hn5, _, w5⟩ := DataW.trod_int Try.underlying3 yk3
  obtain ⟨n6, hn6, _, _⟩ := DataW.trod_int Try.underlying3 g3
  obtain ⟨n7, hn7, _, _⟩ := DataW.trod_int Try.underlying3 g4
  obtain ⟨n8, hn8, _, _⟩ := DataW.trod_int Try.underlying3 g5
  obtain ⟨zs, zm, _, _, _, zl, zf⟩ := DataW.trod_struct Try.underlying27 g6
  have zk0 : DataW.trod enc Try.prog W base spare held zm 24 (([u9, u10, u11, u12, u13, u14].drop 0).take (Try.prog.cellsOf 24)) = zs[0]? := zf 0 _ rfl
  have zj0 : zs[0]? = some (zs[0]'(by rw [zl]; decide)) := List.getElem?_eq_getElem _
  rw [zj0, cellsU647] at zk0
  obtain ⟨n9, hn9, _, w9⟩ := DataW.trod_int Try.underlying24 zk0
  have zk1 : DataW.trod enc Try.prog W base spare held zm 3 (([u9, u10, u11, u12, u13, u14].drop 1).take (Try.prog.cellsOf 3)) = zs[1]? := zf 1 _ rfl
  have zj1 : zs[1]? = some (zs[1]'(by rw [zl]; decide)) := List.getElem?_eq_getElem _
  rw [zj1, cellsInt6] at zk1
  obtain ⟨n10, hn10, _, w10⟩ := DataW.trod_int Try.underlying3 zk1
  have zk2 : DataW.trod enc Try.prog W base spare held zm 3 (([u9, u10, u11, u12, u13, u14].drop 2).take (Try.prog.cellsOf 3)) = zs[2]? := zf 2 _ rfl
  have zj2 : zs[2]? = some (zs[2]'(by rw [zl]; decide)) := List.getElem?_eq_getElem _
  rw [zj2, cellsInt6] at zk2
  obtain ⟨n11, hn11, _, w11⟩ := DataW.trod_int Try.underlying3 zk2
  have zk3 : DataW.trod enc Try.prog W base spare held zm 25 (([u9, u10, u11, u12, u13, u14].drop 3).take (Try.prog.cellsOf 25)) = zs[3]? := zf 3 _ rfl
  have zj3 : zs[3]? = some (zs[3]'(by rw [zl]; decide)) := List.getElem?_eq_getElem _
  rw [zj3, cellsU327] at zk3
  obtain ⟨n12, hn12, _, w12⟩ := DataW.trod_int Try.underlying25 zk3
  have zk4 : DataW.trod enc Try.prog W base spare held zm 25 (([u9, u10, u11, u12, u13, u14].drop 4).take (Try.prog.cellsOf 25)) = zs[4]? := zf 4 _ rfl
  have zj4 : zs[4]? = some (zs[4]'(by rw [zl]; decide)) := List.getElem?_eq_getElem _
  rw [zj4, cellsU327] at zk4
  obtain ⟨n13, hn13, _, w13⟩ := DataW.trod_int Try.underlying25 zk4
  have zk5 : DataW.trod enc Try.prog W base spare held zm 25 (([u9, u10, u11, u12, u13, u14].drop 5).take (Try.prog.cellsOf 25)) = zs[5]? := zf 5 _ rfl
  have zj5 : zs[5]? = some (zs[5]'(by rw [zl]; decide)) := List.getElem?_eq_getElem _
  rw [zj5, cellsU327] at zk5
  obtain ⟨n14, hn14, _, w14⟩ := DataW.trod_int Try.underlying25 zk5
  obtain ⟨a15, m15, c15, z15, hn15, hm15, hb15⟩ := ints_cells hsp g7
  obtain ⟨a16, m16, c16, z16, hn16, hm16, hb16⟩ := ints_cells hsp g8
  obtain ⟨n17, hn17, _, _⟩ := DataW.trod_int Try.underlying3 g9
  obtain ⟨n18, hn18, _, _⟩ := DataW.trod_int Try.underlying3 g10
  obtain ⟨n19, hn19, _, _⟩ := DataW.trod_int Try.underlying3 g11
  simp at hn0 hn1 hn2 hn3 hn4 hn5 hn6 hn7 hn8 hn9 hn10 hn11 hn12 hn13 hn14 hn15 hn16 hn17 hn18 hn19
  subst hn0
  subst hn1
  subst hn2
  subst hn3
  subst hn4
  subst hn5
  subst hn6
  subst hn7
  subst hn8
  subst hn9
  subst hn10
  subst hn11
  subst hn12
  subst hn13
  subst hn14
  subst hn15
  subst hn16
  subst hn17
  subst hn18
  subst hn19
  have q9 := wf_u64 w9
  have q12 := wf_u32 w12
  have q13 := wf_u32 w13
  have q14 := wf_u32 w14
  refine ⟨⟨n0, n1, n2, n3, n4, n5, n6, n7, n8, ⟨n9.toNat, n10, n11, n12.toNat, n13.toNat, n14.toNat⟩, a15, m15, c15, z15, a16, m16, c16, z16, n17, n18, n19⟩, ?_, hb15, hm15, hb16, hm16, ?_, ?_, ?_, ?_⟩
  · simp only [Ms.cells]
    rw [Int.toNat_of_nonneg q9.1, Int.toNat_of_nonneg q12.1, Int.toNat_of_nonneg q13.1, Int.toNat_of_nonneg q14.1]
  · simp only; omega
  · simp only; omega
  · simp only; omega
  · simp only; omega

theorem open_msg {H : Type} {enc : TypeId × Value → H} {W : World} {base base2 : Nat} {spare : Nat → Bool} {held : Bool} {r : Reach} {v : Value} {d : DataW H} {p : List MemPlace} (hsp : ∀ b, spare b = true)
    (hv : Value.okWide Try.prog W r base2 30 v) (h : DataW.Trod enc Try.prog W base spare held 30 v d p) : ∃ x : Ms, ∃ _ : FineM W W.heap.size x, v = .agg x.cells.toArray := by
  obtain ⟨cs, rfl, hsz⟩ := okWide_struct Try.underlying30 hv
  obtain ⟨fuel, hf⟩ := h
  rw [cellsMsg8] at hsz
  obtain ⟨x, he, hok⟩ := msg_cells hsp (by simpa [Value.cells] using hsz) hf
  refine ⟨x, hok, ?_⟩
  have he' : cs.toList = x.cells := by simpa [Value.cells] using he
  rw [← he']
end Go.Proofs.Ythmgpffpiggomaa
