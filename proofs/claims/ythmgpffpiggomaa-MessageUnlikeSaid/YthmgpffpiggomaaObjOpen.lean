/-
  How an argument that is a slice of the document's objects is opened. No condition.
-/
import Derived.Test.YthmgpffpiggomaaOpen
import Derived.Test.YthmgpffpiggomaaObjMD
import Derived.Deep.Fields
namespace Go.Proofs.Ythmgpffpiggomaa
open Go.RowKit Go.ChangeShapes Go.WideShapes Go.ChangeAt Go.Deep
set_option maxRecDepth 100000

theorem cellsInt6 : Try.prog.cellsOf 3 = 1 := by kernel_rfl
theorem cellsBytes6 : Try.prog.cellsOf 31 = 1 := by kernel_rfl
theorem list_three6 (cs : List Value) (h : cs.length = 3) : ∃ u v t, cs = [u, v, t] := by
  match cs, h with
  | [u, v, t], _ => exact ⟨u, v, t, rfl⟩

theorem bytes_cells {H : Type} {enc : TypeId × Value → H} {W : World} {base : Nat} {spare : Nat → Bool} {held : Bool} {fuel : Nat} {y : DataW H × List MemPlace} {cs : List Value} (hsp : ∀ b, spare b = true)
    (h : DataW.trod enc Try.prog W base spare held fuel 31 cs = some y) : ∃ a n c l, cs = [.slice a n c] ∧ n ≤ maxLen ∧ Bts W W.heap.size a n l := by
  rcases open_slice Try.underlying31 h with ⟨hcs, _⟩ | ⟨x, len, cap, m, k, D, Pl, hcs, _⟩
  · exact ⟨none, 0, 0, [], hcs, Nat.zero_le _, Bts.nil⟩
  · subst hcs
    obtain ⟨h1, l, h2⟩ := open_bytes hsp (a := some x) (n := len) (c := cap) (d := y.1) (p := y.2) ⟨fuel, h⟩
    exact ⟨some x, len, cap, l, rfl, h1, h2⟩

def OkOb (W : World) (q : Ob) : Prop := Bts W W.heap.size q.a q.n q.l ∧ q.n ≤ maxLen
end Go.Proofs.Ythmgpffpiggomaa
