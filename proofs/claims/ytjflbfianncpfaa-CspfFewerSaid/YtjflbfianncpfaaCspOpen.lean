/-
  How the arguments of layer 17's laws are opened: a case, a question, a route. No condition.
-/
import Derived.Test.YtjflbfianncpfaaPruOpen
import Derived.Test.YtjflbfianncpfaaGraphOpen
import Derived.Test.YtjflbfianncpfaaCspA
namespace Go.Proofs.Ytjflbfianncpfaa
open Go.RowKit Go.ChangeShapes Go.WideShapes Go.ChangeAt Go.Deep
set_option maxRecDepth 100000
set_option linter.unusedVariables false

section
variable {H : Type} {enc : TypeId × Value → H} {W : World} {base base2 : Nat} {spare : Nat → Bool} {held : Bool}
theorem int_open17 {fuel : Nat} {y : Option (DataW H × List MemPlace)} {v : Value} (hy : ∃ z, y = some z) (h : DataW.trod enc Try.prog W base spare held fuel 3 [v] = y) : ∃ (n : Int) (_ : I15 n), v = .int .i64 n := by
  obtain ⟨z, rfl⟩ := hy
  obtain ⟨n0, hn0, _, k0⟩ := DataW.trod_int Try.underlying3 h
  simp at hn0
  have j0 := wf_i64 k0
  exact ⟨n0, by unfold I15; omega, hn0⟩
theorem int_cell17 (fuel : Nat) (y : DataW H × List MemPlace) (cs : List Value) (hl : cs.length = 1) (h : DataW.trod enc Try.prog W base spare held fuel 3 cs = some y) : ∃ x : Int, cs = ei x ∧ I15 x := by
  obtain ⟨n0, hn0, _, k0⟩ := DataW.trod_int Try.underlying3 h
  have j0 := wf_i64 k0
  exact ⟨n0, hn0, by unfold I15; omega⟩
/-- A route. -/
theorem open_ints17 {a : Option Addr} {n c : Nat} {d : DataW H} {p : List MemPlace} (h : DataW.Trod enc Try.prog W base spare held 29 (.slice a n c) d p) : n ≤ c ∧ c ≤ maxLen ∧ ∃ es, Row ei W W.heap.size a n es ∧ ∀ x ∈ es, I15 x := by
  have h1 := open_intsG h
  have h2 := open_rows16 ei_length (by decide) Try.underlying29 cellsI16 0 int_cell17 h
  exact ⟨h1.1, h1.2.1, h2.2⟩
/-- A question, with a number of links that an int may be. -/
theorem open_ask17 {r : Reach} {v : Value} {d : DataW H} {p : List MemPlace}
    (hv : Value.okWide Try.prog W r base2 33 v) (h : DataW.Trod enc Try.prog W base spare held 33 v d p) :
    ∃ (a : Ak) (q : Pl) (_ : I15 q.h ∧ AkOk a ∧ AkRow W a q), v = .agg (akc a.w q).toArray := by
  obtain ⟨cs, rfl, hsz⟩ := okWide_struct Try.underlying33 hv
  obtain ⟨fuel, hf⟩ := h
  rw [cellsAk16] at hsz
  obtain ⟨xs, m, _, _, _, hxl, hg⟩ := DataW.trod_struct Try.underlying33 hf
  obtain ⟨c0, c1, c2, c3, c4, c5, c6, c7, c8, c9, hab⟩ := list_ten16 cs.toList (by simpa using hsz)
  have hcs : (Value.agg cs).cells.toList = [c0, c1, c2, c3, c4, c5, c6, c7, c8, c9] := by simpa [Value.cells] using hab
  rw [hcs] at hg
  have g0 : DataW.trod enc Try.prog W base spare held m 28 (([c0, c1, c2, c3, c4, c5, c6, c7, c8, c9].drop 0).take (Try.prog.cellsOf 28)) = xs[0]? := hg 0 _ rfl
  have g1 : DataW.trod enc Try.prog W base spare held m 29 (([c0, c1, c2, c3, c4, c5, c6, c7, c8, c9].drop 6).take (Try.prog.cellsOf 29)) = xs[1]? := hg 1 _ rfl
  have g2 : DataW.trod enc Try.prog W base spare held m 30 (([c0, c1, c2, c3, c4, c5, c6, c7, c8, c9].drop 7).take (Try.prog.cellsOf 30)) = xs[2]? := hg 2 _ rfl
  have g3 : DataW.trod enc Try.prog W base spare held m 31 (([c0, c1, c2, c3, c4, c5, c6, c7, c8, c9].drop 8).take (Try.prog.cellsOf 31)) = xs[3]? := hg 3 _ rfl
  have g4 : DataW.trod enc Try.prog W base spare held m 3 (([c0, c1, c2, c3, c4, c5, c6, c7, c8, c9].drop 9).take (Try.prog.cellsOf 3)) = xs[4]? := hg 4 _ rfl
  rw [cellsWant] at g0
  rw [cellsSI16] at g1
  rw [cellsSP16] at g2
  rw [cellsSO16] at g3
  rw [cellsI16] at g4
  have l0 : xs[0]? = some (xs[0]'(by rw [hxl]; decide)) := List.getElem?_eq_getElem _
  rw [l0] at g0
  obtain ⟨w, hw, hwe⟩ := want_cells rfl g0
  obtain ⟨a1, n1, k1, rfl, d1, p1, t1⟩ := slice_open16 Try.underlying29 ⟨_, List.getElem?_eq_getElem (by rw [hxl]; decide)⟩ g1
  obtain ⟨a2, n2, k2, rfl, d2, p2, t2⟩ := slice_open16 Try.underlying30 ⟨_, List.getElem?_eq_getElem (by rw [hxl]; decide)⟩ g2
  obtain ⟨a3, n3, k3, rfl, d3, p3, t3⟩ := slice_open16 Try.underlying31 ⟨_, List.getElem?_eq_getElem (by rw [hxl]; decide)⟩ g3
  obtain ⟨ho, hoi, rfl⟩ := int_open17 ⟨_, List.getElem?_eq_getElem (by rw [hxl]; decide)⟩ g4
  obtain ⟨m1, nn, r1, _⟩ := open_rows16 ei_length (by decide) Try.underlying29 cellsI16 0 int_cell16 t1
  obtain ⟨m2, nl, r2, _⟩ := open_rows16 prc_length (by decide) Try.underlying30 cellsPr16 (0, 0) pr_cells16 t2
  obtain ⟨m3, ow, r3, hb⟩ := open_rows16 owc_length (by decide) Try.underlying31 cellsOw16 ⟨0, 0, 0⟩ ow_cells16 t3
  refine ⟨⟨w, nn, nl, ow⟩, ⟨a1, n1, k1, a2, n2, k2, a3, n3, k3, ho⟩, ⟨hoi, ⟨hw, hb⟩, ⟨r1, r2, r3⟩⟩, ?_⟩
  cases cs
  simp at hab
  subst hab
  simp [wnc] at hwe
  obtain ⟨rfl, rfl, rfl, rfl, rfl, rfl⟩ := hwe
  rfl
theorem cellsCase17 : Try.prog.cellsOf 24 = 4 := by kernel_rfl
theorem cellsSA17 : Try.prog.cellsOf 22 = 1 := by kernel_rfl
theorem list_four17 (cs : List Value) (h : cs.length = 4) : ∃ a b c d, cs = [a, b, c, d] := by
  match cs, h with
  | [a, b, c, d], _ => exact ⟨a, b, c, d, rfl⟩
/-- A case. -/
theorem open_case17 {r : Reach} {v : Value} {d : DataW H} {p : List MemPlace}
    (hv : Value.okWide Try.prog W r base2 24 v) (h : DataW.Trod enc Try.prog W base spare held 24 v d p) :
    ∃ (n : Int) (b : Option Addr) (m c : Nat) (f t : Int) (_ : (I15 n ∧ I15 f ∧ I15 t) ∧ ∃ l, Row adc W W.heap.size b m l ∧ ∀ x ∈ l, AdOk x ∧ I15 x.q), v = .agg (csc n b m c f t).toArray := by
  obtain ⟨cs, rfl, hsz⟩ := okWide_struct Try.underlying24 hv
  obtain ⟨fuel, hf⟩ := h
  rw [cellsCase17] at hsz
  obtain ⟨xs, m, _, _, _, hxl, hg⟩ := DataW.trod_struct Try.underlying24 hf
  obtain ⟨c0, c1, c2, c3, hab⟩ := list_four17 cs.toList (by simpa using hsz)
  have hcs : (Value.agg cs).cells.toList = [c0, c1, c2, c3] := by simpa [Value.cells] using hab
  rw [hcs] at hg
  have g0 : DataW.trod enc Try.prog W base spare held m 3 (([c0, c1, c2, c3].drop 0).take (Try.prog.cellsOf 3)) = xs[0]? := hg 0 _ rfl
  have g1 : DataW.trod enc Try.prog W base spare held m 22 (([c0, c1, c2, c3].drop 1).take (Try.prog.cellsOf 22)) = xs[1]? := hg 1 _ rfl
  have g2 : DataW.trod enc Try.prog W base spare held m 3 (([c0, c1, c2, c3].drop 2).take (Try.prog.cellsOf 3)) = xs[2]? := hg 2 _ rfl
  have g3 : DataW.trod enc Try.prog W base spare held m 3 (([c0, c1, c2, c3].drop 3).take (Try.prog.cellsOf 3)) = xs[3]? := hg 3 _ rfl
  rw [cellsI16] at g0 g2 g3
  rw [cellsSA17] at g1
  obtain ⟨n, hn, rfl⟩ := int_open17 ⟨_, List.getElem?_eq_getElem (by rw [hxl]; decide)⟩ g0
  obtain ⟨b, m1, k1, rfl, d1, p1, t1⟩ := slice_open16 Try.underlying22 ⟨_, List.getElem?_eq_getElem (by rw [hxl]; decide)⟩ g1
  obtain ⟨f, hf2, rfl⟩ := int_open17 ⟨_, List.getElem?_eq_getElem (by rw [hxl]; decide)⟩ g2
  obtain ⟨t, ht, rfl⟩ := int_open17 ⟨_, List.getElem?_eq_getElem (by rw [hxl]; decide)⟩ g3
  have o1 := open_ads15 t1
  refine ⟨n, b, m1, k1, f, t, ⟨⟨hn, hf2, ht⟩, o1.2⟩, ?_⟩
  cases cs
  simp at hab
  subst hab
  rfl
end
end Go.Proofs.Ytjflbfianncpfaa
