/-
  How an argument that is a key, a call of layer 14, and one that is a slice of such calls are opened. No condition.
-/
import Derived.Test.YtogijfebfffobaaOpen
import Derived.Test.YtogijfebfffobaaGroupOpen
import Derived.Test.YtogijfebfffobaaAdmAH
import Derived.Deep.Fields
namespace Go.Proofs.Ytogijfebfffobaa
open Go.RowKit Go.ChangeShapes Go.WideShapes Go.ChangeAt Go.Deep
set_option maxRecDepth 100000
set_option linter.unusedVariables false

/-- A number of 64 bits with a sign. -/
def I64 (n : Int) : Prop := -9223372036854775808 ≤ n ∧ n < 9223372036854775808
/-- A key's numbers, a want's numbers. -/
def KyB (k : Ky) : Prop := I64 k.tail ∧ I64 k.tun ∧ I64 k.head ∧ I64 k.lsp
def WnB (v : Wn) : Prop := v.bw < 18446744073709551616 ∧ I64 v.su ∧ I64 v.ho ∧ WnOk v
theorem cellsKey14 : Try.prog.cellsOf 30 = 4 := by kernel_rfl
theorem list_four14 (cs : List Value) (h : cs.length = 4) : ∃ a b c d, cs = [a, b, c, d] := by
  match cs, h with
  | [a, b, c, d], _ => exact ⟨a, b, c, d, rfl⟩
theorem list_twelve (cs : List Value) (h : cs.length = 12) : ∃ a b c d e f g i j k l m, cs = [a, b, c, d, e, f, g, i, j, k, l, m] := by
  match cs, h with
  | [a, b, c, d, e, f, g, i, j, k, l, m], _ => exact ⟨a, b, c, d, e, f, g, i, j, k, l, m, rfl⟩
/-- One number with a sign. -/
theorem int_14 {H : Type} {enc : TypeId × Value → H} {W : World} {base : Nat} {spare : Nat → Bool} {held : Bool} {fuel : Nat} {y : Option (DataW H × List MemPlace)} {v : Value} (hy : ∃ z, y = some z)
    (h : DataW.trod enc Try.prog W base spare held fuel 3 [v] = y) : ∃ n : Int, I64 n ∧ v = .int .i64 n := by
  obtain ⟨z, rfl⟩ := hy
  obtain ⟨n0, hn0, _, k0⟩ := DataW.trod_int Try.underlying3 h
  simp at hn0
  subst hn0
  exact ⟨n0, wf_i64 k0, rfl⟩
theorem key_cells {H : Type} {enc : TypeId × Value → H} {W : World} {base : Nat} {spare : Nat → Bool} {held : Bool} {fuel : Nat} {y : Option (DataW H × List MemPlace)} {cs : List Value} (hy : ∃ z, y = some z) (hl : cs.length = 4)
    (h : DataW.trod enc Try.prog W base spare held fuel 30 cs = y) : ∃ k : Ky, KyB k ∧ cs = kyc k := by
  obtain ⟨z, rfl⟩ := hy
  obtain ⟨xs, m, _, _, _, hxl, hf⟩ := DataW.trod_struct Try.underlying30 h
  obtain ⟨a, b, c, d, rfl⟩ := list_four14 cs hl
  have g0 : DataW.trod enc Try.prog W base spare held m 3 (([a, b, c, d].drop 0).take (Try.prog.cellsOf 3)) = xs[0]? := hf 0 _ rfl
  have g1 : DataW.trod enc Try.prog W base spare held m 3 (([a, b, c, d].drop 1).take (Try.prog.cellsOf 3)) = xs[1]? := hf 1 _ rfl
  have g2 : DataW.trod enc Try.prog W base spare held m 3 (([a, b, c, d].drop 2).take (Try.prog.cellsOf 3)) = xs[2]? := hf 2 _ rfl
  have g3 : DataW.trod enc Try.prog W base spare held m 3 (([a, b, c, d].drop 3).take (Try.prog.cellsOf 3)) = xs[3]? := hf 3 _ rfl
  rw [cellsInt12] at g0 g1 g2 g3
  obtain ⟨n0, b0, rfl⟩ := int_14 ⟨_, List.getElem?_eq_getElem (by rw [hxl]; decide)⟩ g0
  obtain ⟨n1, b1, rfl⟩ := int_14 ⟨_, List.getElem?_eq_getElem (by rw [hxl]; decide)⟩ g1
  obtain ⟨n2, b2, rfl⟩ := int_14 ⟨_, List.getElem?_eq_getElem (by rw [hxl]; decide)⟩ g2
  obtain ⟨n3, b3, rfl⟩ := int_14 ⟨_, List.getElem?_eq_getElem (by rw [hxl]; decide)⟩ g3
  exact ⟨⟨n0, n1, n2, n3⟩, ⟨b0, b1, b2, b3⟩, rfl⟩
/-- The cells of a want, with all its bounds. -/
theorem want_cells14 {H : Type} {enc : TypeId × Value → H} {W : World} {base : Nat} {spare : Nat → Bool} {held : Bool} {fuel : Nat} {y : Option (DataW H × List MemPlace)} {cs : List Value} (hy : ∃ z, y = some z) (hl : cs.length = 6)
    (h : DataW.trod enc Try.prog W base spare held fuel 34 cs = y) : ∃ x : Wn, WnB x ∧ cs = wnc x := by
  obtain ⟨z, rfl⟩ := hy
  obtain ⟨x, hx, rfl⟩ := want_cells hl h
  obtain ⟨xs, m, _, _, _, hxl, hf⟩ := DataW.trod_struct Try.underlying34 h
  have g0 : DataW.trod enc Try.prog W base spare held m 31 (((wnc x).drop 0).take (Try.prog.cellsOf 31)) = xs[0]? := hf 0 _ rfl
  have g1 : DataW.trod enc Try.prog W base spare held m 3 (((wnc x).drop 1).take (Try.prog.cellsOf 3)) = xs[1]? := hf 1 _ rfl
  have g2 : DataW.trod enc Try.prog W base spare held m 3 (((wnc x).drop 2).take (Try.prog.cellsOf 3)) = xs[2]? := hf 2 _ rfl
  rw [cellsU64_12, List.getElem?_eq_getElem (by rw [hxl]; decide)] at g0
  rw [cellsInt12] at g1 g2
  obtain ⟨n0, hn0, _, k0⟩ := DataW.trod_int Try.underlying31 g0
  obtain ⟨n1, b1, e1⟩ := int_14 ⟨_, List.getElem?_eq_getElem (by rw [hxl]; decide)⟩ g1
  obtain ⟨n2, b2, e2⟩ := int_14 ⟨_, List.getElem?_eq_getElem (by rw [hxl]; decide)⟩ g2
  have j0 := wf_u64 k0
  simp [wnc] at hn0 e1 e2
  subst hn0
  subst e1
  subst e2
  exact ⟨x, ⟨by omega, b1, b2, hx⟩, rfl⟩
theorem open_key {H : Type} {enc : TypeId × Value → H} {W : World} {base base2 : Nat} {spare : Nat → Bool} {held : Bool} {r : Reach} {v : Value} {d : DataW H} {p : List MemPlace}
    (hv : Value.okWide Try.prog W r base2 30 v) (h : DataW.Trod enc Try.prog W base spare held 30 v d p) : ∃ (x : Ky) (_ : KyB x), v = .agg #[.int .i64 x.tail, .int .i64 x.tun, .int .i64 x.head, .int .i64 x.lsp] := by
  obtain ⟨cs, rfl, hsz⟩ := okWide_struct Try.underlying30 hv
  obtain ⟨fuel, hf⟩ := h
  rw [cellsKey14] at hsz
  obtain ⟨x, hx, he⟩ := key_cells ⟨_, rfl⟩ (by simpa [Value.cells] using hsz) hf
  refine ⟨x, hx, ?_⟩
  have he' : cs.toList = kyc x := by simpa [Value.cells] using he
  cases cs; simp only [kyc] at he'; subst he'; rfl

/-- A call of the laws': Drop or Admit, behind a Copy or not. -/
structure Ac14 where
  dr : Bool
  fk : Bool
  k : Ky
  w : Wn
def a14 (x : Ac14) : List Value := [.bool x.dr, .bool x.fk, .int .i64 x.k.tail, .int .i64 x.k.tun, .int .i64 x.k.head, .int .i64 x.k.lsp, .int .u64 (x.w.bw : Int), .int .i64 x.w.su, .int .i64 x.w.ho, .int .u32 (x.w.an : Int), .int .u32 (x.w.al : Int), .int .u32 (x.w.no : Int)]
theorem a14_length (x : Ac14) : (a14 x).length = 12 := rfl
theorem a14_one (x : Ac14) : ∀ u ∈ a14 x, u.oneCell' = true := by intro u hu; simp [a14] at hu; rcases hu with rfl | rfl | rfl | rfl | rfl | rfl | rfl | rfl | rfl | rfl | rfl | rfl <;> rfl
def Ac14Ok (x : Ac14) : Prop := KyB x.k ∧ WnB x.w
theorem cellsBool14 : Try.prog.cellsOf 4 = 1 := by kernel_rfl
end Go.Proofs.Ytogijfebfffobaa
