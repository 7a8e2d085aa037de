/-
  How an argument that is a pair of nodes is opened. No condition.
-/
import Derived.Test.YtjflbfianncpfaaGraphOpen
import Derived.OpenShut
namespace Go.Proofs.Ytjflbfianncpfaa
open Go.RowKit Go.ChangeShapes Go.WideShapes Go.ChangeAt Go.Deep
set_option maxRecDepth 100000

theorem cellsPair : Try.prog.cellsOf 51 = 2 := by kernel_rfl
theorem list_twoP (cs : List Value) (h : cs.length = 2) : ∃ a b, cs = [a, b] := by
  match cs, h with
  | [a, b], _ => exact ⟨a, b, rfl⟩
theorem okWide_array9 {W : World} {base2 n : Nat} {r : Reach} {v : Value} {t e : TypeId} {P : Program} (ht : P.underlying t = some (.array n e)) (h : Value.okWide P W r base2 t v) : ∃ cs, v = .agg cs ∧ cs.size = P.cellsOf t := by
  simp only [Value.okWide, ht] at h
  obtain ⟨cs, h1, h2, _⟩ := h
  exact ⟨cs, h1, h2⟩
theorem open_pair {H : Type} {enc : TypeId × Value → H} {W : World} {base base2 : Nat} {spare : Nat → Bool} {held : Bool} {r : Reach} {v : Value} {d : DataW H} {p : List MemPlace}
    (hv : Value.okWide Try.prog W r base2 51 v) (h : DataW.Trod enc Try.prog W base spare held 51 v d p) :
    ∃ (x y : Int), ((Lit.int .i64 x).wf = true ∧ (Lit.int .i64 y).wf = true) ∧ v = .agg #[.int .i64 x, .int .i64 y] := by
  obtain ⟨cs, rfl, hsz⟩ := okWide_array9 Try.underlying51 hv
  obtain ⟨fuel, hf⟩ := h
  rw [cellsPair] at hsz
  obtain ⟨xs, m, _, _, _, hxl, hg⟩ := DataW.trod_array Try.underlying51 hf
  obtain ⟨a, b, hab⟩ := list_twoP cs.toList (by simpa using hsz)
  have hcs : (Value.agg cs).cells.toList = [a, b] := by simpa [Value.cells] using hab
  rw [hcs] at hg
  have g0 := hg 0 (by omega)
  have g1 := hg 1 (by omega)
  have l0 : xs[0]? = some (xs[0]'(by rw [hxl]; decide)) := List.getElem?_eq_getElem _
  have l1 : xs[1]? = some (xs[1]'(by rw [hxl]; decide)) := List.getElem?_eq_getElem _
  rw [l0, cellsIntG] at g0
  rw [l1, cellsIntG] at g1
  obtain ⟨n0, hn0, _, hw0⟩ := DataW.trod_int Try.underlying3 g0
  obtain ⟨n1, hn1, _, hw1⟩ := DataW.trod_int Try.underlying3 g1
  simp at hn0 hn1
  subst hn0
  subst hn1
  refine ⟨n0, n1, ⟨by simpa using hw0, by simpa using hw1⟩, ?_⟩
  cases cs
  simp at hab
  subst hab
  rfl
end Go.Proofs.Ytjflbfianncpfaa
