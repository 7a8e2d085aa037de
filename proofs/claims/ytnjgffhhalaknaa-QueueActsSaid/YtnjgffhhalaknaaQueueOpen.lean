/-
  How an argument that is an item of the document's, one that is a slice of such items, and one that is a slice of calls is opened. No condition.
-/
import Derived.Test.YtnjgffhhalaknaaOpen
import Derived.Test.YtnjgffhhalaknaaQueueA
import Derived.Deep.Fields
namespace Go.Proofs.Ytnjgffhhalaknaa
open Go.RowKit Go.ChangeShapes Go.WideShapes Go.ChangeAt Go.Deep
set_option maxRecDepth 100000

theorem cellsItemQ : Try.prog.cellsOf 23 = 3 := by kernel_rfl
theorem cellsIntQ : Try.prog.cellsOf 3 = 1 := by kernel_rfl

theorem list_threeQ (cs : List Value) (h : cs.length = 3) : ∃ u v t, cs = [u, v, t] := by
  match cs, h with
  | [u, v, t], _ => exact ⟨u, v, t, rfl⟩

/-- The cells of an item. -/
theorem item_cellsQ {H : Type} {enc : TypeId × Value → H} {W : World} {base : Nat} {spare : Nat → Bool} {held : Bool} {fuel : Nat} {y : DataW H × List MemPlace} {cs : List Value} (hl : cs.length = 3)
    (h : DataW.trod enc Try.prog W base spare held fuel 23 cs = some y) : ∃ e : Itm, cs = itL e := by
  obtain ⟨xs, m, _, _, _, hxl, hf⟩ := DataW.trod_struct Try.underlying23 h
  obtain ⟨u, v, t, rfl⟩ := list_threeQ cs hl
  have g0 : DataW.trod enc Try.prog W base spare held m 3 (([u, v, t].drop 0).take (Try.prog.cellsOf 3)) = xs[0]? := hf 0 _ rfl
  have g1 : DataW.trod enc Try.prog W base spare held m 3 (([u, v, t].drop 1).take (Try.prog.cellsOf 3)) = xs[1]? := hf 1 _ rfl
  have g2 : DataW.trod enc Try.prog W base spare held m 3 (([u, v, t].drop 2).take (Try.prog.cellsOf 3)) = xs[2]? := hf 2 _ rfl
  have l0 : xs[0]? = some (xs[0]'(by rw [hxl]; decide)) := List.getElem?_eq_getElem _
  have l1 : xs[1]? = some (xs[1]'(by rw [hxl]; decide)) := List.getElem?_eq_getElem _
  have l2 : xs[2]? = some (xs[2]'(by rw [hxl]; decide)) := List.getElem?_eq_getElem _
  rw [l0, cellsIntQ] at g0
  rw [l1, cellsIntQ] at g1
  rw [l2, cellsIntQ] at g2
  obtain ⟨n0, hn0, _, _⟩ := DataW.trod_int Try.underlying3 g0
  obtain ⟨n1, hn1, _, _⟩ := DataW.trod_int Try.underlying3 g1
  obtain ⟨n2, hn2, _, _⟩ := DataW.trod_int Try.underlying3 g2
  simp at hn0 hn1 hn2
  subst hn0
  subst hn1
  subst hn2
  exact ⟨⟨n0, n1, n2⟩, rfl⟩

theorem open_itemQ {H : Type} {enc : TypeId × Value → H} {W : World} {base base2 : Nat} {spare : Nat → Bool} {held : Bool} {r : Reach} {v : Value} {d : DataW H} {p : List MemPlace}
    (hv : Value.okWide Try.prog W r base2 23 v) (h : DataW.Trod enc Try.prog W base spare held 23 v d p) : ∃ x : Itm, v = .agg #[.int .i64 x.cost, .int .i64 x.hops, .int .i64 x.node] := by
  obtain ⟨cs, rfl, hsz⟩ := okWide_struct Try.underlying23 hv
  obtain ⟨fuel, hf⟩ := h
  rw [cellsItemQ] at hsz
  obtain ⟨⟨x, y, z⟩, he⟩ := item_cellsQ (by simpa [Value.cells] using hsz) hf
  refine ⟨⟨x, y, z⟩, ?_⟩
  have he' : cs.toList = [.int .i64 x, .int .i64 y, .int .i64 z] := by simpa [Value.cells, itL] using he
  cases cs; simp at he'; subst he'; rfl

theorem open_itemsQ {H : Type} {enc : TypeId × Value → H} {W : World} {base : Nat} {spare : Nat → Bool} {held : Bool} {a : Option Addr} {n c : Nat} {d : DataW H} {p : List MemPlace}
    (h : DataW.Trod enc Try.prog W base spare held 32 (.slice a n c) d p) : n ≤ c ∧ c ≤ maxLen ∧ ∃ es, Row itL W W.heap.size a n es := by
  obtain ⟨fuel, hf⟩ := h
  rcases open_slice Try.underlying32 hf with ⟨hcs, _⟩ | ⟨x, len, cap, m, k, D, Pl, hcs, _, hl, hm, hmm, _, hi⟩
  · simp [Value.cells] at hcs
    obtain ⟨rfl, rfl, rfl⟩ := hcs
    exact ⟨Nat.le_refl _, Nat.zero_le _, [], Row.nil⟩
  · simp [Value.cells] at hcs
    obtain ⟨rfl, rfl, rfl⟩ := hcs
    have hnm : n ≤ m := by rw [hmm]; split <;> omega
    have hel : ∀ i, ∃ q : Itm, i < m → ∀ j, j < 3 → W.cell? ((x.add (i * 3)).add j) = (itL q)[j]? := by
      intro i
      by_cases him : i < m
      · obtain ⟨cs', hc, ht⟩ := hi i him
        rw [cellsItemQ] at hc
        obtain ⟨_, hcl, hat⟩ := World.cells?_some hc
        obtain ⟨q, rfl⟩ := item_cellsQ hcl ht
        exact ⟨q, fun _ j hj => hat j hj⟩
      · exact ⟨⟨0, 0, 0⟩, fun h => absurd h him⟩
    obtain ⟨f, hf2⟩ := Classical.axiomOfChoice hel
    refine ⟨hl, hm, (List.range n).map f, Row.mk itL_length (by simp) fun hn => ?_⟩
    have h0 := hf2 0 (by omega) 0 (by omega)
    obtain ⟨b, o, sp⟩ := x
    have h0' : W.cell? (((⟨b, o, sp⟩ : Addr).add (0 * 3)).add 0) = some (.int .i64 (f 0).cost) := h0
    have hspot : sp = none := by simpa [Addr.add] using World.cell?_spot h0'
    subst hspot
    refine ⟨b, o, rfl, ?_, fun i hi2 j hj => ?_⟩
    · have := World.block_lt_of_cell? _ _ h0'
      rwa [add_plain, add_plain] at this
    · simp only [List.length_map, List.length_range] at hi2
      have h2 := hf2 i (by omega) j hj
      rw [add_plain, add_plain] at h2
      simpa using h2

/-- The cells of a call. -/
def eaQ (q : Bool × Itm) : List Value := [.bool q.1, .int .i64 q.2.cost, .int .i64 q.2.hops, .int .i64 q.2.node]
theorem eaQ_length (q : Bool × Itm) : (eaQ q).length = 4 := rfl
theorem cellsActQ : Try.prog.cellsOf 34 = 4 := by kernel_rfl
theorem cellsBoolQ : Try.prog.cellsOf 4 = 1 := by kernel_rfl
theorem list_fourQ (cs : List Value) (h : cs.length = 4) : ∃ u v t s, cs = [u, v, t, s] := by
  match cs, h with
  | [u, v, t, s], _ => exact ⟨u, v, t, s, rfl⟩
theorem act_cellsQ {H : Type} {enc : TypeId × Value → H} {W : World} {base : Nat} {spare : Nat → Bool} {held : Bool} {fuel : Nat} {y : DataW H × List MemPlace} {cs : List Value} (hl : cs.length = 4)
    (h : DataW.trod enc Try.prog W base spare held fuel 34 cs = some y) : ∃ q : Bool × Itm, cs = eaQ q := by
  obtain ⟨xs, m, _, _, _, hxl, hf⟩ := DataW.trod_struct Try.underlying34 h
  obtain ⟨u, v, t, s, rfl⟩ := list_fourQ cs hl
  have g0 : DataW.trod enc Try.prog W base spare held m 4 (([u, v, t, s].drop 0).take (Try.prog.cellsOf 4)) = xs[0]? := hf 0 _ rfl
  have g1 : DataW.trod enc Try.prog W base spare held m 23 (([u, v, t, s].drop 1).take (Try.prog.cellsOf 23)) = xs[1]? := hf 1 _ rfl
  have l0 : xs[0]? = some (xs[0]'(by rw [hxl]; decide)) := List.getElem?_eq_getElem _
  have l1 : xs[1]? = some (xs[1]'(by rw [hxl]; decide)) := List.getElem?_eq_getElem _
  rw [l0, cellsBoolQ] at g0
  rw [l1, cellsItemQ] at g1
  obtain ⟨n0, hn0, _⟩ := DataW.trod_bool Try.underlying4 g0
  obtain ⟨x, hx⟩ := item_cellsQ rfl g1
  simp [itL] at hn0 hx
  obtain ⟨h1, h2, h3⟩ := hx
  subst hn0
  subst h1
  subst h2
  subst h3
  exact ⟨(n0, x), rfl⟩
theorem open_actsQ {H : Type} {enc : TypeId × Value → H} {W : World} {base : Nat} {spare : Nat → Bool} {held : Bool} {a : Option Addr} {n c : Nat} {d : DataW H} {p : List MemPlace}
    (h : DataW.Trod enc Try.prog W base spare held 29 (.slice a n c) d p) : n ≤ c ∧ c ≤ maxLen ∧ ∃ es, Row eaQ W W.heap.size a n es := by
  obtain ⟨fuel, hf⟩ := h
  rcases open_slice Try.underlying29 hf with ⟨hcs, _⟩ | ⟨x, len, cap, m, k, D, Pl, hcs, _, hl, hm, hmm, _, hi⟩
  · simp [Value.cells] at hcs
    obtain ⟨rfl, rfl, rfl⟩ := hcs
    exact ⟨Nat.le_refl _, Nat.zero_le _, [], Row.nil⟩
  · simp [Value.cells] at hcs
    obtain ⟨rfl, rfl, rfl⟩ := hcs
    have hnm : n ≤ m := by rw [hmm]; split <;> omega
    have hel : ∀ i, ∃ q : Bool × Itm, i < m → ∀ j, j < 4 → W.cell? ((x.add (i * 4)).add j) = (eaQ q)[j]? := by
      intro i
      by_cases him : i < m
      · obtain ⟨cs', hc, ht⟩ := hi i him
        rw [cellsActQ] at hc
        obtain ⟨_, hcl, hat⟩ := World.cells?_some hc
        obtain ⟨q, rfl⟩ := act_cellsQ hcl ht
        exact ⟨q, fun _ j hj => hat j hj⟩
      · exact ⟨(false, ⟨0, 0, 0⟩), fun h => absurd h him⟩
    obtain ⟨f, hf2⟩ := Classical.axiomOfChoice hel
    refine ⟨hl, hm, (List.range n).map f, Row.mk eaQ_length (by simp) fun hn => ?_⟩
    have h0 := hf2 0 (by omega) 0 (by omega)
    obtain ⟨b, o, sp⟩ := x
    have h0' : W.cell? (((⟨b, o, sp⟩ : Addr).add (0 * 4)).add 0) = some (.bool (f 0).1) := h0
    have hspot : sp = none := by simpa [Addr.add] using World.cell?_spot h0'
    subst hspot
    refine ⟨b, o, rfl, ?_, fun i hi2 j hj => ?_⟩
    · have := World.block_lt_of_cell? _ _ h0'
      rwa [add_plain, add_plain] at this
    · simp only [List.length_map, List.length_range] at hi2
      have h2 := hf2 i (by omega) j hj
      rw [add_plain, add_plain] at h2
      simpa using h2
end Go.Proofs.Ytnjgffhhalaknaa
