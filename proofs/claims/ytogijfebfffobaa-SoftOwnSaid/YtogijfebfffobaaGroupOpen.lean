/-
  How an argument that is a want is opened. No condition.
-/
import Derived.Test.YtogijfebfffobaaOpen
import Derived.Test.YtogijfebfffobaaGroupMC
import Derived.Deep.Fields
namespace Go.Proofs.Ytogijfebfffobaa
open Go.RowKit Go.ChangeShapes Go.WideShapes Go.ChangeAt Go.Deep
set_option maxRecDepth 100000

theorem wf_u32 {n : Int} (h : (Lit.int .u32 n).wf = true) : 0 ≤ n ∧ n < 4294967296 := by
  have h2 : IntKind.u32.min ≤ n ∧ n ≤ IntKind.u32.max := by simpa [Lit.wf] using h
  have e1 : IntKind.u32.min = 0 := by decide
  have e2 : IntKind.u32.max = 4294967295 := by decide
  omega
theorem cellsWant : Try.prog.cellsOf 34 = 6 := by kernel_rfl
theorem cellsInt12 : Try.prog.cellsOf 3 = 1 := by kernel_rfl
theorem cellsU64_12 : Try.prog.cellsOf 31 = 1 := by kernel_rfl
theorem cellsU32_12 : Try.prog.cellsOf 32 = 1 := by kernel_rfl

theorem list_six (cs : List Value) (h : cs.length = 6) : ∃ a b c d e f, cs = [a, b, c, d, e, f] := by
  match cs, h with
  | [a, b, c, d, e, f], _ => exact ⟨a, b, c, d, e, f, rfl⟩

/-- The cells of a want. -/
theorem want_cells {H : Type} {enc : TypeId × Value → H} {W : World} {base : Nat} {spare : Nat → Bool} {held : Bool} {fuel : Nat} {y : DataW H × List MemPlace} {cs : List Value} (hl : cs.length = 6)
    (h : DataW.trod enc Try.prog W base spare held fuel 34 cs = some y) : ∃ x : Wn, WnOk x ∧ cs = wnc x := by
  obtain ⟨xs, m, _, _, _, hxl, hf⟩ := DataW.trod_struct Try.underlying34 h
  obtain ⟨a, b, c, d, e, f, rfl⟩ := list_six cs hl
  have g0 : DataW.trod enc Try.prog W base spare held m 31 (([a, b, c, d, e, f].drop 0).take (Try.prog.cellsOf 31)) = xs[0]? := hf 0 _ rfl
  have g1 : DataW.trod enc Try.prog W base spare held m 3 (([a, b, c, d, e, f].drop 1).take (Try.prog.cellsOf 3)) = xs[1]? := hf 1 _ rfl
  have g2 : DataW.trod enc Try.prog W base spare held m 3 (([a, b, c, d, e, f].drop 2).take (Try.prog.cellsOf 3)) = xs[2]? := hf 2 _ rfl
  have g3 : DataW.trod enc Try.prog W base spare held m 32 (([a, b, c, d, e, f].drop 3).take (Try.prog.cellsOf 32)) = xs[3]? := hf 3 _ rfl
  have g4 : DataW.trod enc Try.prog W base spare held m 32 (([a, b, c, d, e, f].drop 4).take (Try.prog.cellsOf 32)) = xs[4]? := hf 4 _ rfl
  have g5 : DataW.trod enc Try.prog W base spare held m 32 (([a, b, c, d, e, f].drop 5).take (Try.prog.cellsOf 32)) = xs[5]? := hf 5 _ rfl
  have l0 : xs[0]? = some (xs[0]'(by rw [hxl]; decide)) := List.getElem?_eq_getElem _
  have l1 : xs[1]? = some (xs[1]'(by rw [hxl]; decide)) := List.getElem?_eq_getElem _
  have l2 : xs[2]? = some (xs[2]'(by rw [hxl]; decide)) := List.getElem?_eq_getElem _
  have l3 : xs[3]? = some (xs[3]'(by rw [hxl]; decide)) := List.getElem?_eq_getElem _
  have l4 : xs[4]? = some (xs[4]'(by rw [hxl]; decide)) := List.getElem?_eq_getElem _
  have l5 : xs[5]? = some (xs[5]'(by rw [hxl]; decide)) := List.getElem?_eq_getElem _
  rw [l0, cellsU64_12] at g0
  rw [l1, cellsInt12] at g1
  rw [l2, cellsInt12] at g2
  rw [l3, cellsU32_12] at g3
  rw [l4, cellsU32_12] at g4
  rw [l5, cellsU32_12] at g5
  obtain ⟨n0, hn0, _, k0⟩ := DataW.trod_int Try.underlying31 g0
  obtain ⟨n1, hn1, _, k1⟩ := DataW.trod_int Try.underlying3 g1
  obtain ⟨n2, hn2, _, k2⟩ := DataW.trod_int Try.underlying3 g2
  obtain ⟨n3, hn3, _, k3⟩ := DataW.trod_int Try.underlying32 g3
  obtain ⟨n4, hn4, _, k4⟩ := DataW.trod_int Try.underlying32 g4
  obtain ⟨n5, hn5, _, k5⟩ := DataW.trod_int Try.underlying32 g5
  simp at hn0 hn1 hn2 hn3 hn4 hn5
  subst hn0
  subst hn1
  subst hn2
  subst hn3
  subst hn4
  subst hn5
  have j0 := wf_u64 k0
  have j3 := wf_u32 k3
  have j4 := wf_u32 k4
  have j5 := wf_u32 k5
  obtain ⟨m0, rfl⟩ := Int.eq_ofNat_of_zero_le j0.1
  obtain ⟨m3, rfl⟩ := Int.eq_ofNat_of_zero_le j3.1
  obtain ⟨m4, rfl⟩ := Int.eq_ofNat_of_zero_le j4.1
  obtain ⟨m5, rfl⟩ := Int.eq_ofNat_of_zero_le j5.1
  exact ⟨⟨m0, n1, n2, m3, m4, m5⟩, ⟨by simp only; omega, by simp only; omega, by simp only; omega⟩, rfl⟩

theorem open_want {H : Type} {enc : TypeId × Value → H} {W : World} {base base2 : Nat} {spare : Nat → Bool} {held : Bool} {r : Reach} {v : Value} {d : DataW H} {p : List MemPlace}
    (hv : Value.okWide Try.prog W r base2 34 v) (h : DataW.Trod enc Try.prog W base spare held 34 v d p) : ∃ (x : Wn) (_ : WnOk x), v = .agg #[.int .u64 (x.bw : Int), .int .i64 x.su, .int .i64 x.ho, .int .u32 (x.an : Int), .int .u32 (x.al : Int), .int .u32 (x.no : Int)] := by
  obtain ⟨cs, rfl, hsz⟩ := okWide_struct Try.underlying34 hv
  obtain ⟨fuel, hf⟩ := h
  rw [cellsWant] at hsz
  obtain ⟨x, hx, he⟩ := want_cells (by simpa [Value.cells] using hsz) hf
  refine ⟨x, hx, ?_⟩
  have he' : cs.toList = wnc x := by simpa [Value.cells] using he
  cases cs; simp only [wnc] at he'; subst he'; rfl
end Go.Proofs.Ytogijfebfffobaa
