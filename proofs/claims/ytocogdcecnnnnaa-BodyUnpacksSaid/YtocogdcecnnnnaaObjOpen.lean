/-
  How an argument that is a slice of the document's objects is opened. No condition.
-/
import Derived.Test.YtocogdcecnnnnaaOpen
import Derived.Test.YtocogdcecnnnnaaObjA
import Derived.Deep.Fields
namespace Go.Proofs.Ytocogdcecnnnnaa
open Go.RowKit Go.ChangeShapes Go.WideShapes Go.ChangeAt Go.Deep
set_option maxRecDepth 100000

theorem cellsObj6 : Try.prog.cellsOf 38 = 3 := by kernel_rfl
theorem cellsInt6 : Try.prog.cellsOf 3 = 1 := by kernel_rfl
theorem cellsBytes6 : Try.prog.cellsOf 30 = 1 := by kernel_rfl
theorem list_three6 (cs : List Value) (h : cs.length = 3) : ∃ u v t, cs = [u, v, t] := by
  match cs, h with
  | [u, v, t], _ => exact ⟨u, v, t, rfl⟩

theorem bytes_cells {H : Type} {enc : TypeId × Value → H} {W : World} {base : Nat} {spare : Nat → Bool} {held : Bool} {fuel : Nat} {y : DataW H × List MemPlace} {cs : List Value} (hsp : ∀ b, spare b = true)
    (h : DataW.trod enc Try.prog W base spare held fuel 30 cs = some y) : ∃ a n c l, cs = [.slice a n c] ∧ n ≤ maxLen ∧ Bts W W.heap.size a n l := by
  rcases open_slice Try.underlying30 h with ⟨hcs, _⟩ | ⟨x, len, cap, m, k, D, Pl, hcs, _⟩
  · exact ⟨none, 0, 0, [], hcs, Nat.zero_le _, Bts.nil⟩
  · subst hcs
    obtain ⟨h1, l, h2⟩ := open_bytes hsp (a := some x) (n := len) (c := cap) (d := y.1) (p := y.2) ⟨fuel, h⟩
    exact ⟨some x, len, cap, l, rfl, h1, h2⟩

def OkOb (W : World) (q : Ob) : Prop := Bts W W.heap.size q.a q.n q.l ∧ q.n ≤ maxLen
theorem obj_cells {H : Type} {enc : TypeId × Value → H} {W : World} {base : Nat} {spare : Nat → Bool} {held : Bool} {fuel : Nat} {y : DataW H × List MemPlace} {cs : List Value} (hsp : ∀ b, spare b = true) (hl : cs.length = 3)
    (h : DataW.trod enc Try.prog W base spare held fuel 38 cs = some y) : ∃ q : Ob, cs = eo q ∧ OkOb W q := by
  obtain ⟨xs, m, _, _, _, hxl, hf⟩ := DataW.trod_struct Try.underlying38 h
  obtain ⟨u, v, t, rfl⟩ := list_three6 cs hl
  have g0 : DataW.trod enc Try.prog W base spare held m 3 (([u, v, t].drop 0).take (Try.prog.cellsOf 3)) = xs[0]? := hf 0 _ rfl
  have g1 : DataW.trod enc Try.prog W base spare held m 3 (([u, v, t].drop 1).take (Try.prog.cellsOf 3)) = xs[1]? := hf 1 _ rfl
  have g2 : DataW.trod enc Try.prog W base spare held m 30 (([u, v, t].drop 2).take (Try.prog.cellsOf 30)) = xs[2]? := hf 2 _ rfl
  have l0 : xs[0]? = some (xs[0]'(by rw [hxl]; decide)) := List.getElem?_eq_getElem _
  have l1 : xs[1]? = some (xs[1]'(by rw [hxl]; decide)) := List.getElem?_eq_getElem _
  have l2 : xs[2]? = some (xs[2]'(by rw [hxl]; decide)) := List.getElem?_eq_getElem _
  rw [l0, cellsInt6] at g0
  rw [l1, cellsInt6] at g1
  rw [l2, cellsBytes6] at g2
  obtain ⟨n0, hn0, _, _⟩ := DataW.trod_int Try.underlying3 g0
  obtain ⟨n1, hn1, _, _⟩ := DataW.trod_int Try.underlying3 g1
  obtain ⟨a, n, c, l, hs, hm, hb⟩ := bytes_cells hsp g2
  simp at hn0 hn1 hs
  subst hn0
  subst hn1
  subst hs
  exact ⟨⟨n0, n1, a, n, c, l⟩, rfl, hb, hm⟩

theorem open_objs {H : Type} {enc : TypeId × Value → H} {W : World} {base : Nat} {spare : Nat → Bool} {held : Bool} {a : Option Addr} {n c : Nat} {d : DataW H} {p : List MemPlace} (hsp : ∀ b, spare b = true)
    (h : DataW.Trod enc Try.prog W base spare held 62 (.slice a n c) d p) : n ≤ maxLen ∧ ∃ qs, Objs W W.heap.size a n qs := by
  obtain ⟨fuel, hf⟩ := h
  rcases open_slice Try.underlying62 hf with ⟨hcs, _⟩ | ⟨x, len, cap, m, k, D, Pl, hcs, _, hl, hm, hmm, _, hi⟩
  · simp [Value.cells] at hcs
    obtain ⟨rfl, rfl, rfl⟩ := hcs
    exact ⟨Nat.zero_le _, [], Objs.nil⟩
  · simp [Value.cells] at hcs
    obtain ⟨rfl, rfl, rfl⟩ := hcs
    have hnm : n ≤ m := by rw [hmm]; split <;> omega
    have hel : ∀ i, ∃ q : Ob, i < m → (∀ j, j < 3 → W.cell? ((x.add (i * 3)).add j) = (eo q)[j]?) ∧ OkOb W q := by
      intro i
      by_cases him : i < m
      · obtain ⟨cs', hc, ht⟩ := hi i him
        rw [cellsObj6] at hc
        obtain ⟨_, hcl, hat⟩ := World.cells?_some hc
        obtain ⟨q, rfl, hw⟩ := obj_cells hsp hcl ht
        exact ⟨q, fun _ => ⟨fun j hj => hat j hj, hw⟩⟩
      · exact ⟨⟨0, 0, none, 0, 0, []⟩, fun h => absurd h him⟩
    obtain ⟨f, hf2⟩ := Classical.axiomOfChoice hel
    refine ⟨Nat.le_trans hl hm, (List.range n).map f, Row.mk eo_length (by simp) fun hn => ?_, ?_⟩
    · have h0 := (hf2 0 (by omega)).1 0 (by omega)
      obtain ⟨b, o, sp⟩ := x
      have h0' : W.cell? (((⟨b, o, sp⟩ : Addr).add (0 * 3)).add 0) = some (.int .i64 (f 0).cl) := h0
      have hspot : sp = none := by simpa [Addr.add] using World.cell?_spot h0'
      subst hspot
      refine ⟨b, o, rfl, ?_, fun i hi2 j hj => ?_⟩
      · have := World.block_lt_of_cell? _ _ h0'
        rwa [add_plain, add_plain] at this
      · simp only [List.length_map, List.length_range] at hi2
        have h2 := (hf2 i (by omega)).1 j hj
        rw [add_plain, add_plain] at h2
        simpa using h2
    · intro q hq
      obtain ⟨i, hi2, rfl⟩ := List.mem_map.1 hq
      have := List.mem_range.1 hi2
      exact (hf2 i (by omega)).2
end Go.Proofs.Ytocogdcecnnnnaa
