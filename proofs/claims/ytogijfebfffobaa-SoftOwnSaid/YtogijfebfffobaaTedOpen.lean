/-
  How an argument that is an advert, and one that is a slice of adverts, of truths, of bytes, or a network, is opened. No condition.
-/
import Derived.Test.YtogijfebfffobaaOpen
import Derived.Test.YtogijfebfffobaaTecA
import Derived.Deep.Fields
namespace Go.Proofs.Ytogijfebfffobaa
open Go.RowKit Go.ChangeShapes Go.WideShapes Go.ChangeAt Go.Deep
set_option maxRecDepth 100000
set_option linter.unusedVariables false

theorem cellsU64_15 : Try.prog.cellsOf 31 = 1 := by kernel_rfl
theorem cellsU32_15 : Try.prog.cellsOf 32 = 1 := by kernel_rfl
theorem cellsInt_15 : Try.prog.cellsOf 3 = 1 := by kernel_rfl
theorem cellsBool_15 : Try.prog.cellsOf 4 = 1 := by kernel_rfl
theorem list_five15 (cs : List Value) (h : cs.length = 5) : ∃ a b c d e, cs = [a, b, c, d, e] := by
  match cs, h with
  | [a, b, c, d, e], _ => exact ⟨a, b, c, d, e, rfl⟩
theorem list_fifteen (cs : List Value) (h : cs.length = 15) : ∃ c0 c1 c2 c3 c4 c5 c6 c7 c8 c9 c10 c11 c12 c13 c14, cs = [c0, c1, c2, c3, c4, c5, c6, c7, c8, c9, c10, c11, c12, c13, c14] := by
  match cs, h with
  | [c0, c1, c2, c3, c4, c5, c6, c7, c8, c9, c10, c11, c12, c13, c14], _ => exact ⟨c0, c1, c2, c3, c4, c5, c6, c7, c8, c9, c10, c11, c12, c13, c14, rfl⟩
theorem wf_u32_15 {n : Int} (h : (Lit.int .u32 n).wf = true) : 0 ≤ n ∧ n < 4294967296 := by
  have h2 : IntKind.u32.min ≤ n ∧ n ≤ IntKind.u32.max := by simpa [Lit.wf] using h
  have e1 : IntKind.u32.min = 0 := by decide
  have e2 : IntKind.u32.max = 4294967295 := by decide
  omega
/-- Cap and Groups as large as their types allow. -/
def LkB (x : Lk) : Prop := 0 ≤ x.c ∧ x.c < 18446744073709551616 ∧ 0 ≤ x.g ∧ x.g < 4294967296
section
variable {H : Type} {enc : TypeId × Value → H} {W : World} {base base2 : Nat} {spare : Nat → Bool} {held : Bool}
theorem num_15 {fuel : Nat} {y : Option (DataW H × List MemPlace)} {v : Value} (hy : ∃ z, y = some z)
    (h : DataW.trod enc Try.prog W base spare held fuel 31 [v] = y) : ∃ n : Nat, n < 18446744073709551616 ∧ v = .int .u64 (n : Int) := by
  obtain ⟨z, rfl⟩ := hy
  obtain ⟨n0, hn0, _, k0⟩ := DataW.trod_int Try.underlying31 h
  simp at hn0
  subst hn0
  have j0 := wf_u64 k0
  obtain ⟨m0, rfl⟩ := Int.eq_ofNat_of_zero_le j0.1
  exact ⟨m0, by omega, rfl⟩
theorem list_two15 (cs : List Value) (h : cs.length = 2) : ∃ a b, cs = [a, b] := by
  match cs, h with
  | [a, b], _ => exact ⟨a, b, rfl⟩
def eb15 (d : Bool) : List Value := [.bool d]
theorem eb15_length (d : Bool) : (eb15 d).length = 1 := rfl
end
end Go.Proofs.Ytogijfebfffobaa
