/-
  How an argument that is an item, and one that is an object, is opened. No condition.
-/
import Derived.Test.YthmgpffpiggomaaObjOpen
import Derived.Test.YthmgpffpiggomaaBodyGI
import Derived.ChangeMaps5
namespace Go.Proofs.Ythmgpffpiggomaa
open Go.RowKit Go.ChangeShapes Go.WideShapes Go.ChangeAt Go.Deep
set_option maxRecDepth 100000

theorem cellsItem7 : Try.prog.cellsOf 88 = 12 := by kernel_rfl
theorem cellsInts7 : Try.prog.cellsOf 28 = 1 := by kernel_rfl
theorem cellsU647 : Try.prog.cellsOf 24 = 1 := by kernel_rfl
theorem cellsU327 : Try.prog.cellsOf 25 = 1 := by kernel_rfl
theorem cellsWant7 : Try.prog.cellsOf 27 = 6 := by kernel_rfl
theorem wf_u32 {n : Int} (h : (Lit.int .u32 n).wf = true) : 0 ≤ n ∧ n < 4294967296 := by
  have h2 : IntKind.u32.min ≤ n ∧ n ≤ IntKind.u32.max := by simpa [Lit.wf] using h
  have e1 : IntKind.u32.min = 0 := by decide
  have e2 : IntKind.u32.max = 4294967295 := by decide
  omega

theorem ints_cells {H : Type} {enc : TypeId × Value → H} {W : World} {base : Nat} {spare : Nat → Bool} {held : Bool} {fuel : Nat} {y : DataW H × List MemPlace} {cs : List Value} (hsp : ∀ b, spare b = true)
    (h : DataW.trod enc Try.prog W base spare held fuel 28 cs = some y) : ∃ a n c l, cs = [.slice a n c] ∧ n ≤ maxLen ∧ Row ei W W.heap.size a n l := by
  rcases open_ints Try.underlying28 Try.underlying3 (by kernel_rfl) h with ⟨hcs, _⟩ | ⟨x, len, cap, zs, hcs, _, hl, hm, hz, _, hcell, hwz⟩
  · exact ⟨none, 0, 0, [], hcs, Nat.zero_le _, Row.nil⟩
  · rw [hsp, if_pos rfl] at hz
    refine ⟨some x, len, cap, zs.take len, hcs, Nat.le_trans hl hm, by simp; omega, fun hn => ?_⟩
    have h0 := hcell 0 (by omega)
    obtain ⟨b, o, sp⟩ := x
    have hspot : sp = none := by simpa [Addr.add] using World.cell?_spot h0
    subst hspot
    refine ⟨b, o, rfl, ?_, fun i hi => ?_⟩
    · have := World.block_lt_of_cell? _ _ h0
      rwa [add_plain] at this
    · simp only [ei_flat, List.length_map, List.length_take] at hi
      have hc := hcell i (by omega)
      rw [add_plain] at hc
      rw [hc]
      have hlt : i < zs.length := by omega
      simp [ei_flat, List.getD, hlt]

theorem list_twelve (cs : List Value) (h : cs.length = 12) : ∃ u0 u1 u2 u3 u4 u5 u6 u7 u8 u9 u10 u11, cs = [u0, u1, u2, u3, u4, u5, u6, u7, u8, u9, u10, u11] := by
  match cs, h with
  | [u0, u1, u2, u3, u4, u5, u6, u7, u8, u9, u10, u11], _ => exact ⟨u0, u1, u2, u3, u4, u5, u6, u7, u8, u9, u10, u11, rfl⟩

theorem item_cells {H : Type} {enc : TypeId × Value → H} {W : World} {base : Nat} {spare : Nat → Bool} {held : Bool} {fuel : Nat} {y : DataW H × List MemPlace} {cs : List Value} (hsp : ∀ b, spare b = true) (hl : cs.length = 12)
    (h : DataW.trod enc Try.prog W base spare held fuel 88 cs = some y) : ∃ x : It, cs = x.cells ∧ Fine W W.heap.size x := by
  obtain ⟨xs, m, _, _, _, hxl, hf⟩ := DataW.trod_struct Try.underlying88 h
  obtain ⟨u0, u1, u2, u3, u4, u5, u6, u7, u8, u9, u10, u11, rfl⟩ := list_twelve cs hl
  have g0 : DataW.trod enc Try.prog W base spare held m 3 (([u0, u1, u2, u3, u4, u5, u6, u7, u8, u9, u10, u11].drop 0).take (Try.prog.cellsOf 3)) = xs[0]? := hf 0 _ rfl
  have l0 : xs[0]? = some (xs[0]'(by rw [hxl]; decide)) := List.getElem?_eq_getElem _
  rw [l0, cellsInt6] at g0
  have g1 : DataW.trod enc Try.prog W base spare held m 3 (([u0, u1, u2, u3, u4, u5, u6, u7, u8, u9, u10, u11].drop 1).take (Try.prog.cellsOf 3)) = xs[1]? := hf 1 _ rfl
  have l1 : xs[1]? = some (xs[1]'(by rw [hxl]; decide)) := List.getElem?_eq_getElem _
  rw [l1, cellsInt6] at g1
  have g2 : DataW.trod enc Try.prog W base spare held m 3 (([u0, u1, u2, u3, u4, u5, u6, u7, u8, u9, u10, u11].drop 2).take (Try.prog.cellsOf 3)) = xs[2]? := hf 2 _ rfl
  have l2 : xs[2]? = some (xs[2]'(by rw [hxl]; decide)) := List.getElem?_eq_getElem _
  rw [l2, cellsInt6] at g2
  have g3 : DataW.trod enc Try.prog W base spare held m 3 (([u0, u1, u2, u3, u4, u5, u6, u7, u8, u9, u10, u11].drop 3).take (Try.prog.cellsOf 3)) = xs[3]? := hf 3 _ rfl
  have l3 : xs[3]? = some (xs[3]'(by rw [hxl]; decide)) := List.getElem?_eq_getElem _
  rw [l3, cellsInt6] at g3
  have g4 : DataW.trod enc Try.prog W base spare held m 24 (([u0, u1, u2, u3, u4, u5, u6, u7, u8, u9, u10, u11].drop 4).take (Try.prog.cellsOf 24)) = xs[4]? := hf 4 _ rfl
  have l4 : xs[4]? = some (xs[4]'(by rw [hxl]; decide)) := List.getElem?_eq_getElem _
  rw [l4, cellsU647] at g4
  have g5 : DataW.trod enc Try.prog W base spare held m 28 (([u0, u1, u2, u3, u4, u5, u6, u7, u8, u9, u10, u11].drop 5).take (Try.prog.cellsOf 28)) = xs[5]? := hf 5 _ rfl
  have l5 : xs[5]? = some (xs[5]'(by rw [hxl]; decide)) := List.getElem?_eq_getElem _
  rw [l5, cellsInts7] at g5
  have g6 : DataW.trod enc Try.prog W base spare held m 27 (([u0, u1, u2, u3, u4, u5, u6, u7, u8, u9, u10, u11].drop 6).take (Try.prog.cellsOf 27)) = xs[6]? := hf 6 _ rfl
  have l6 : xs[6]? = some (xs[6]'(by rw [hxl]; decide)) := List.getElem?_eq_getElem _
  rw [l6, cellsWant7] at g6
  obtain ⟨n0, hn0, _, _⟩ := DataW.trod_int Try.underlying3 g0
  obtain ⟨n1, hn1, _, _⟩ := DataW.trod_int Try.underlying3 g1
  obtain ⟨n2, hn2, _, _⟩ := DataW.trod_int Try.underlying3 g2
  obtain ⟨n3, hn3, _, _⟩ := DataW.trod_int Try.underlying3 g3
  obtain ⟨n4, hn4, _, w4⟩ := DataW.trod_int Try.underlying24 g4
  obtain ⟨a, n, c, l, hs, hm, hb⟩ := ints_cells hsp g5
  obtain ⟨ys, m2, _, _, _, hyl, hf2⟩ := DataW.trod_struct Try.underlying27 g6
  have k0 : DataW.trod enc Try.prog W base spare held m2 24 (([u6, u7, u8, u9, u10, u11].drop 0).take (Try.prog.cellsOf 24)) = ys[0]? := hf2 0 _ rfl
  have j0 : ys[0]? = some (ys[0]'(by rw [hyl]; decide)) := List.getElem?_eq_getElem _
  rw [j0, cellsU647] at k0
  obtain ⟨m6, hm6, _, v6⟩ := DataW.trod_int Try.underlying24 k0
  have k1 : DataW.trod enc Try.prog W base spare held m2 3 (([u6, u7, u8, u9, u10, u11].drop 1).take (Try.prog.cellsOf 3)) = ys[1]? := hf2 1 _ rfl
  have j1 : ys[1]? = some (ys[1]'(by rw [hyl]; decide)) := List.getElem?_eq_getElem _
  rw [j1, cellsInt6] at k1
  obtain ⟨m7, hm7, _, v7⟩ := DataW.trod_int Try.underlying3 k1
  have k2 : DataW.trod enc Try.prog W base spare held m2 3 (([u6, u7, u8, u9, u10, u11].drop 2).take (Try.prog.cellsOf 3)) = ys[2]? := hf2 2 _ rfl
  have j2 : ys[2]? = some (ys[2]'(by rw [hyl]; decide)) := List.getElem?_eq_getElem _
  rw [j2, cellsInt6] at k2
  obtain ⟨m8, hm8, _, v8⟩ := DataW.trod_int Try.underlying3 k2
  have k3 : DataW.trod enc Try.prog W base spare held m2 25 (([u6, u7, u8, u9, u10, u11].drop 3).take (Try.prog.cellsOf 25)) = ys[3]? := hf2 3 _ rfl
  have j3 : ys[3]? = some (ys[3]'(by rw [hyl]; decide)) := List.getElem?_eq_getElem _
  rw [j3, cellsU327] at k3
  obtain ⟨m9, hm9, _, v9⟩ := DataW.trod_int Try.underlying25 k3
  have k4 : DataW.trod enc Try.prog W base spare held m2 25 (([u6, u7, u8, u9, u10, u11].drop 4).take (Try.prog.cellsOf 25)) = ys[4]? := hf2 4 _ rfl
  have j4 : ys[4]? = some (ys[4]'(by rw [hyl]; decide)) := List.getElem?_eq_getElem _
  rw [j4, cellsU327] at k4
  obtain ⟨m10, hm10, _, v10⟩ := DataW.trod_int Try.underlying25 k4
  have k5 : DataW.trod enc Try.prog W base spare held m2 25 (([u6, u7, u8, u9, u10, u11].drop 5).take (Try.prog.cellsOf 25)) = ys[5]? := hf2 5 _ rfl
  have j5 : ys[5]? = some (ys[5]'(by rw [hyl]; decide)) := List.getElem?_eq_getElem _
  rw [j5, cellsU327] at k5
  obtain ⟨m11, hm11, _, v11⟩ := DataW.trod_int Try.underlying25 k5
  simp at hn0 hn1 hn2 hn3 hn4 hs hm6 hm7 hm8 hm9 hm10 hm11
  subst hn0
  subst hn1
  subst hn2
  subst hn3
  subst hn4
  subst hs
  subst hm6
  subst hm7
  subst hm8
  subst hm9
  subst hm10
  subst hm11
  have q4 := wf_u64 w4
  have q6 := wf_u64 v6
  have q9 := wf_u32 v9
  have q10 := wf_u32 v10
  have q11 := wf_u32 v11
  refine ⟨⟨n0, n1, n2, n3, n4.toNat, a, n, c, l, ⟨m6.toNat, m7, m8, m9.toNat, m10.toNat, m11.toNat⟩⟩, ?_, hb, hm, ?_, ?_, ?_, ?_⟩
  · simp only [It.cells]
    rw [Int.toNat_of_nonneg q4.1, Int.toNat_of_nonneg q6.1, Int.toNat_of_nonneg q9.1, Int.toNat_of_nonneg q10.1, Int.toNat_of_nonneg q11.1]
  · simp only; omega
  · simp only; omega
  · simp only; omega
  · simp only; omega

theorem open_item {H : Type} {enc : TypeId × Value → H} {W : World} {base base2 : Nat} {spare : Nat → Bool} {held : Bool} {r : Reach} {v : Value} {d : DataW H} {p : List MemPlace} (hsp : ∀ b, spare b = true)
    (hv : Value.okWide Try.prog W r base2 88 v) (h : DataW.Trod enc Try.prog W base spare held 88 v d p) : ∃ x : It, ∃ _ : Fine W W.heap.size x, v = .agg x.cells.toArray := by
  obtain ⟨cs, rfl, hsz⟩ := okWide_struct Try.underlying88 hv
  obtain ⟨fuel, hf⟩ := h
  rw [cellsItem7] at hsz
  obtain ⟨x, he, hok⟩ := item_cells hsp (by simpa [Value.cells] using hsz) hf
  refine ⟨x, hok, ?_⟩
  have he' : cs.toList = x.cells := by simpa [Value.cells] using he
  rw [← he']
/-- An object that came in, with its body's room. -/
theorem bytes_cells7 {H : Type} {enc : TypeId × Value → H} {W : World} {base : Nat} {spare : Nat → Bool} {held : Bool} {fuel : Nat} {y : DataW H × List MemPlace} {cs : List Value} (hsp : ∀ b, spare b = true)
    (h : DataW.trod enc Try.prog W base spare held fuel 31 cs = some y) : ∃ a n c l, cs = [.slice a n c] ∧ n ≤ c ∧ c ≤ maxLen ∧ Bts W W.heap.size a n l := by
  rcases open_slice Try.underlying31 h with ⟨hcs, _⟩ | ⟨x, len, cap, m, k, D, Pl, hcs, _⟩
  · exact ⟨none, 0, 0, [], hcs, Nat.le_refl _, Nat.zero_le _, Bts.nil⟩
  · subst hcs
    obtain ⟨_, l, h2⟩ := open_bytes hsp (a := some x) (n := len) (c := cap) (d := y.1) (p := y.2) ⟨fuel, h⟩
    obtain ⟨h3, h4⟩ := open_cap (a := some x) (n := len) (c := cap) (d := y.1) (p := y.2) ⟨fuel, h⟩
    exact ⟨some x, len, cap, l, rfl, h3, h4, h2⟩
end Go.Proofs.Ythmgpffpiggomaa
