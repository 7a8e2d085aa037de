/-
  How an argument that is a slice of calls (a number, and whether bytes are asked for) is opened. No condition.
-/
import Derived.Test.YtkjkgjkjjiejaaaOpen
import Derived.Test.YtkjkgjkjjiejaaaWrongW
import Derived.Deep.Fields
namespace Go.Proofs.Ytkjkgjkjjiejaaa
open Go.RowKit Go.ChangeShapes Go.WideShapes Go.ChangeAt Go.Deep

theorem cellsOp : Try.prog.cellsOf 30 = 2 := by kernel_rfl
theorem cellsInt : Try.prog.cellsOf 3 = 1 := by kernel_rfl
theorem cellsBool : Try.prog.cellsOf 4 = 1 := by kernel_rfl

theorem list_two (cs : List Value) (h : cs.length = 2) : ∃ u v, cs = [u, v] := by
  match cs, h with
  | [u, v], _ => exact ⟨u, v, rfl⟩

theorem one_op {H : Type} {enc : TypeId × Value → H} {W : World} {base : Nat} {spare : Nat → Bool} {held : Bool} {fuel : Nat} {x : Addr} {y : DataW H × List MemPlace} {cs : List Value}
    (hc : W.cells? base x 2 = some cs) (h : DataW.trod enc Try.prog W base spare held fuel 30 cs = some y) :
    ∃ (n : Int) (r : Bool), W.cell? (x.add 0) = some (.int .i64 n) ∧ W.cell? (x.add 1) = some (.bool r) := by
  obtain ⟨xs, m, _, _, _, hxl, hf⟩ := DataW.trod_struct Try.underlying30 h
  obtain ⟨_, hcl, hat⟩ := World.cells?_some hc
  obtain ⟨u, v, rfl⟩ := list_two cs hcl
  have g0 : DataW.trod enc Try.prog W base spare held m 3 (([u, v].drop 0).take (Try.prog.cellsOf 3)) = xs[0]? := hf 0 _ rfl
  have g1 : DataW.trod enc Try.prog W base spare held m 4 (([u, v].drop 1).take (Try.prog.cellsOf 4)) = xs[1]? := hf 1 _ rfl
  have l0 : xs[0]? = some (xs[0]'(by rw [hxl]; decide)) := List.getElem?_eq_getElem _
  have l1 : xs[1]? = some (xs[1]'(by rw [hxl]; decide)) := List.getElem?_eq_getElem _
  rw [l0, cellsInt] at g0
  rw [l1, cellsBool] at g1
  obtain ⟨n, hn, _, _⟩ := DataW.trod_int Try.underlying3 g0
  obtain ⟨r, hr, _⟩ := DataW.trod_bool Try.underlying4 g1
  have h0 := hat 0 (by omega)
  have h1 := hat 1 (by omega)
  simp at hn hr h0 h1
  subst hn
  subst hr
  exact ⟨n, r, h0, h1⟩

theorem open_calls {H : Type} {enc : TypeId × Value → H} {W : World} {base : Nat} {spare : Nat → Bool} {held : Bool} {a : Option Addr} {n c : Nat} {d : DataW H} {p : List MemPlace}
    (h : DataW.Trod enc Try.prog W base spare held 23 (.slice a n c) d p) : n ≤ maxLen ∧ ∃ os, Ops W W.heap.size a n os := by
  obtain ⟨fuel, hf⟩ := h
  rcases open_slice Try.underlying23 hf with ⟨hcs, _⟩ | ⟨x, len, cap, m, k, D, Pl, hcs, _, hl, hm, hmm, _, hi⟩
  · simp [Value.cells] at hcs
    obtain ⟨rfl, rfl, rfl⟩ := hcs
    exact ⟨Nat.zero_le _, [], rfl, fun h => absurd h (by omega)⟩
  · simp [Value.cells] at hcs
    obtain ⟨rfl, rfl, rfl⟩ := hcs
    have hnm : n ≤ m := by rw [hmm]; split <;> omega
    have hel : ∀ i, ∃ q : Int × Bool, i < m → W.cell? ((x.add (i * 2)).add 0) = some (.int .i64 q.1) ∧ W.cell? ((x.add (i * 2)).add 1) = some (.bool q.2) := by
      intro i
      by_cases him : i < m
      · obtain ⟨cs', hc, ht⟩ := hi i him
        rw [cellsOp] at hc
        obtain ⟨z, r, h0, h1⟩ := one_op hc ht
        exact ⟨(z, r), fun _ => ⟨h0, h1⟩⟩
      · exact ⟨(0, false), fun h => absurd h him⟩
    obtain ⟨f, hf2⟩ := Classical.axiomOfChoice hel
    refine ⟨Nat.le_trans hl hm, (List.range n).map f, by simp, fun hn => ?_⟩
    have h0 := (hf2 0 (by omega)).1
    obtain ⟨b, o, sp⟩ := x
    have hspot : sp = none := by simpa [Addr.add] using World.cell?_spot h0
    subst hspot
    refine ⟨b, o, rfl, ?_, fun i hi2 => ?_⟩
    · have := World.block_lt_of_cell? _ _ h0
      rwa [add_plain, add_plain] at this
    · simp only [List.length_map, List.length_range] at hi2
      have h2 := hf2 i (by omega)
      rw [add_plain, add_plain, add_plain] at h2
      simpa using h2
end Go.Proofs.Ytkjkgjkjjiejaaa
