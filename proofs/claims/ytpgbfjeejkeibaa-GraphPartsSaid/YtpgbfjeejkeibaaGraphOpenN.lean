/-
  How an argument that is a network is opened. No condition.
-/
import Derived.Test.YtpgbfjeejkeibaaGraphOpen
namespace Go.Proofs.Ytpgbfjeejkeibaa
open Go.RowKit Go.ChangeShapes Go.WideShapes Go.ChangeAt Go.Deep
set_option maxRecDepth 100000

theorem cellsNet : Try.prog.cellsOf 45 = 2 := by kernel_rfl
theorem cellsLinks : Try.prog.cellsOf 22 = 1 := by kernel_rfl
theorem list_twoG (cs : List Value) (h : cs.length = 2) : ∃ a b, cs = [a, b] := by
  match cs, h with
  | [a, b], _ => exact ⟨a, b, rfl⟩
theorem open_net {H : Type} {enc : TypeId × Value → H} {W : World} {base base2 : Nat} {spare : Nat → Bool} {held : Bool} {r : Reach} {v : Value} {d : DataW H} {p : List MemPlace}
    (hv : Value.okWide Try.prog W r base2 45 v) (h : DataW.Trod enc Try.prog W base spare held 45 v d p) :
    ∃ (n : Int) (a : Option Addr) (m c : Nat), ((Lit.int .i64 n).wf = true ∧ m ≤ c ∧ c ≤ maxLen ∧ ∃ es, Row lkc W W.heap.size a m es) ∧ v = .agg #[.int .i64 n, .slice a m c] := by
  obtain ⟨cs, rfl, hsz⟩ := okWide_struct Try.underlying45 hv
  obtain ⟨fuel, hf⟩ := h
  rw [cellsNet] at hsz
  obtain ⟨xs, m, _, _, _, hxl, hg⟩ := DataW.trod_struct Try.underlying45 hf
  obtain ⟨a, b, hab⟩ := list_twoG cs.toList (by simpa using hsz)
  have hcs : (Value.agg cs).cells.toList = [a, b] := by simpa [Value.cells] using hab
  rw [hcs] at hg
  have g0 : DataW.trod enc Try.prog W base spare held m 3 (([a, b].drop 0).take (Try.prog.cellsOf 3)) = xs[0]? := hg 0 _ rfl
  have g1 : DataW.trod enc Try.prog W base spare held m 22 (([a, b].drop 1).take (Try.prog.cellsOf 22)) = xs[1]? := hg 1 _ rfl
  have l0 : xs[0]? = some (xs[0]'(by rw [hxl]; decide)) := List.getElem?_eq_getElem _
  have l1 : xs[1]? = some (xs[1]'(by rw [hxl]; decide)) := List.getElem?_eq_getElem _
  rw [l0, cellsIntG] at g0
  rw [l1, cellsLinks] at g1
  obtain ⟨n0, hn0, _, hw0⟩ := DataW.trod_int Try.underlying3 g0
  simp at hn0
  subst hn0
  have hbs : ∃ (p : Option Addr) (n c : Nat), b = .slice p n c := by
    rcases open_slice Try.underlying22 g1 with ⟨hcs2, _⟩ | ⟨x, len, cap, m2, k, D, Pl, hcs2, _⟩
    · simp at hcs2; exact ⟨_, _, _, hcs2⟩
    · simp at hcs2; exact ⟨_, _, _, hcs2⟩
  obtain ⟨q, m2, c2, rfl⟩ := hbs
  have ho := open_links (enc := enc) (W := W) (base := base) (spare := spare) (held := held) (a := q) (n := m2) (c := c2) ⟨m, g1⟩
  refine ⟨n0, q, m2, c2, ⟨by simpa using hw0, ho⟩, ?_⟩
  cases cs
  simp at hab
  subst hab
  rfl
end Go.Proofs.Ytpgbfjeejkeibaa
