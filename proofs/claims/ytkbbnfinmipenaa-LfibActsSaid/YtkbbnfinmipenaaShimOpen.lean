/-
  How an argument that is an entry, and one that is a slice of entries, is opened. No condition.
-/
import Derived.Test.YtkbbnfinmipenaaOpen
import Derived.Test.YtkbbnfinmipenaaShimM
import Derived.Deep.Fields
namespace Go.Proofs.Ytkbbnfinmipenaa
open Go.RowKit Go.ChangeShapes Go.WideShapes Go.ChangeAt Go.Deep
set_option maxRecDepth 100000

theorem cellsEntry : Try.prog.cellsOf 61 = 3 := by kernel_rfl
theorem cellsInt : Try.prog.cellsOf 3 = 1 := by kernel_rfl

theorem list_three (cs : List Value) (h : cs.length = 3) : ∃ u v t, cs = [u, v, t] := by
  match cs, h with
  | [u, v, t], _ => exact ⟨u, v, t, rfl⟩

/-- The cells of an entry. -/
theorem entry_cells {H : Type} {enc : TypeId × Value → H} {W : World} {base : Nat} {spare : Nat → Bool} {held : Bool} {fuel : Nat} {y : DataW H × List MemPlace} {cs : List Value} (hl : cs.length = 3)
    (h : DataW.trod enc Try.prog W base spare held fuel 61 cs = some y) : ∃ e : Int × Int × Int, cs = ec e := by
  obtain ⟨xs, m, _, _, _, hxl, hf⟩ := DataW.trod_struct Try.underlying61 h
  obtain ⟨u, v, t, rfl⟩ := list_three cs hl
  have g0 : DataW.trod enc Try.prog W base spare held m 3 (([u, v, t].drop 0).take (Try.prog.cellsOf 3)) = xs[0]? := hf 0 _ rfl
  have g1 : DataW.trod enc Try.prog W base spare held m 3 (([u, v, t].drop 1).take (Try.prog.cellsOf 3)) = xs[1]? := hf 1 _ rfl
  have g2 : DataW.trod enc Try.prog W base spare held m 3 (([u, v, t].drop 2).take (Try.prog.cellsOf 3)) = xs[2]? := hf 2 _ rfl
  have l0 : xs[0]? = some (xs[0]'(by rw [hxl]; decide)) := List.getElem?_eq_getElem _
  have l1 : xs[1]? = some (xs[1]'(by rw [hxl]; decide)) := List.getElem?_eq_getElem _
  have l2 : xs[2]? = some (xs[2]'(by rw [hxl]; decide)) := List.getElem?_eq_getElem _
  rw [l0, cellsInt] at g0
  rw [l1, cellsInt] at g1
  rw [l2, cellsInt] at g2
  obtain ⟨n0, hn0, _, _⟩ := DataW.trod_int Try.underlying3 g0
  obtain ⟨n1, hn1, _, _⟩ := DataW.trod_int Try.underlying3 g1
  obtain ⟨n2, hn2, _, _⟩ := DataW.trod_int Try.underlying3 g2
  simp at hn0 hn1 hn2
  subst hn0
  subst hn1
  subst hn2
  exact ⟨(n0, n1, n2), rfl⟩

theorem open_entry {H : Type} {enc : TypeId × Value → H} {W : World} {base base2 : Nat} {spare : Nat → Bool} {held : Bool} {r : Reach} {v : Value} {d : DataW H} {p : List MemPlace}
    (hv : Value.okWide Try.prog W r base2 61 v) (h : DataW.Trod enc Try.prog W base spare held 61 v d p) : ∃ x y z : Int, v = .agg #[.int .i64 x, .int .i64 y, .int .i64 z] := by
  obtain ⟨cs, rfl, hsz⟩ := okWide_struct Try.underlying61 hv
  obtain ⟨fuel, hf⟩ := h
  rw [cellsEntry] at hsz
  obtain ⟨⟨x, y, z⟩, he⟩ := entry_cells (by simpa [Value.cells] using hsz) hf
  refine ⟨x, y, z, ?_⟩
  have he' : cs.toList = [.int .i64 x, .int .i64 y, .int .i64 z] := by simpa [Value.cells, ec] using he
  cases cs; simp at he'; subst he'; rfl

theorem open_entries {H : Type} {enc : TypeId × Value → H} {W : World} {base : Nat} {spare : Nat → Bool} {held : Bool} {a : Option Addr} {n c : Nat} {d : DataW H} {p : List MemPlace}
    (h : DataW.Trod enc Try.prog W base spare held 31 (.slice a n c) d p) : n ≤ c ∧ c ≤ maxLen ∧ ∃ es, Row ec W W.heap.size a n es := by
  obtain ⟨fuel, hf⟩ := h
  rcases open_slice Try.underlying31 hf with ⟨hcs, _⟩ | ⟨x, len, cap, m, k, D, Pl, hcs, _, hl, hm, hmm, _, hi⟩
  · simp [Value.cells] at hcs
    obtain ⟨rfl, rfl, rfl⟩ := hcs
    exact ⟨Nat.le_refl _, Nat.zero_le _, [], Row.nil⟩
  · simp [Value.cells] at hcs
    obtain ⟨rfl, rfl, rfl⟩ := hcs
    have hnm : n ≤ m := by rw [hmm]; split <;> omega
    have hel : ∀ i, ∃ q : Int × Int × Int, i < m → ∀ j, j < 3 → W.cell? ((x.add (i * 3)).add j) = (ec q)[j]? := by
      intro i
      by_cases him : i < m
      · obtain ⟨cs', hc, ht⟩ := hi i him
        rw [cellsEntry] at hc
        obtain ⟨_, hcl, hat⟩ := World.cells?_some hc
        obtain ⟨q, rfl⟩ := entry_cells hcl ht
        exact ⟨q, fun _ j hj => hat j hj⟩
      · exact ⟨(0, 0, 0), fun h => absurd h him⟩
    obtain ⟨f, hf2⟩ := Classical.axiomOfChoice hel
    refine ⟨hl, hm, (List.range n).map f, Row.mk ec_length (by simp) fun hn => ?_⟩
    have h0 := hf2 0 (by omega) 0 (by omega)
    obtain ⟨b, o, sp⟩ := x
    have h0' : W.cell? (((⟨b, o, sp⟩ : Addr).add (0 * 3)).add 0) = some (.int .i64 (f 0).1) := h0
    have hspot : sp = none := by simpa [Addr.add] using World.cell?_spot h0'
    subst hspot
    refine ⟨b, o, rfl, ?_, fun i hi2 j hj => ?_⟩
    · have := World.block_lt_of_cell? _ _ h0'
      rwa [add_plain, add_plain] at this
    · simp only [List.length_map, List.length_range] at hi2
      have h2 := hf2 i (by omega) j hj
      rw [add_plain, add_plain] at h2
      simpa using h2
end Go.Proofs.Ytkbbnfinmipenaa
