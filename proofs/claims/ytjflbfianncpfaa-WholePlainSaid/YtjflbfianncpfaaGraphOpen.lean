/-
  How an argument that is a slice of links, and one that is a slice of whole numbers, is opened. No condition.
-/
import Derived.Test.YtjflbfianncpfaaOpen
import Derived.Test.YtjflbfianncpfaaGraphAC
import Derived.Deep.Fields
namespace Go.Proofs.Ytjflbfianncpfaa
open Go.RowKit Go.ChangeShapes Go.WideShapes Go.ChangeAt Go.Deep
set_option maxRecDepth 100000

theorem cellsLink : Try.prog.cellsOf 53 = 5 := by kernel_rfl
theorem cellsIntG : Try.prog.cellsOf 3 = 1 := by kernel_rfl
theorem cellsU64G : Try.prog.cellsOf 25 = 1 := by kernel_rfl
theorem cellsU32G : Try.prog.cellsOf 26 = 1 := by kernel_rfl
theorem list_five (cs : List Value) (h : cs.length = 5) : ∃ a b c d e, cs = [a, b, c, d, e] := by
  match cs, h with
  | [a, b, c, d, e], _ => exact ⟨a, b, c, d, e, rfl⟩

/-- The cells of a link. -/
theorem link_open {H : Type} {enc : TypeId × Value → H} {W : World} {base : Nat} {spare : Nat → Bool} {held : Bool} {fuel : Nat} {y : DataW H × List MemPlace} {cs : List Value} (hl : cs.length = 5)
    (h : DataW.trod enc Try.prog W base spare held fuel 53 cs = some y) : ∃ x : Lk, cs = lkc x := by
  obtain ⟨xs, m, _, _, _, hxl, hf⟩ := DataW.trod_struct Try.underlying53 h
  obtain ⟨a, b, c, d, e, rfl⟩ := list_five cs hl
  have g0 : DataW.trod enc Try.prog W base spare held m 3 (([a, b, c, d, e].drop 0).take (Try.prog.cellsOf 3)) = xs[0]? := hf 0 _ rfl
  have g1 : DataW.trod enc Try.prog W base spare held m 3 (([a, b, c, d, e].drop 1).take (Try.prog.cellsOf 3)) = xs[1]? := hf 1 _ rfl
  have g2 : DataW.trod enc Try.prog W base spare held m 25 (([a, b, c, d, e].drop 2).take (Try.prog.cellsOf 25)) = xs[2]? := hf 2 _ rfl
  have g3 : DataW.trod enc Try.prog W base spare held m 3 (([a, b, c, d, e].drop 3).take (Try.prog.cellsOf 3)) = xs[3]? := hf 3 _ rfl
  have g4 : DataW.trod enc Try.prog W base spare held m 26 (([a, b, c, d, e].drop 4).take (Try.prog.cellsOf 26)) = xs[4]? := hf 4 _ rfl
  have l0 : xs[0]? = some (xs[0]'(by rw [hxl]; decide)) := List.getElem?_eq_getElem _
  have l1 : xs[1]? = some (xs[1]'(by rw [hxl]; decide)) := List.getElem?_eq_getElem _
  have l2 : xs[2]? = some (xs[2]'(by rw [hxl]; decide)) := List.getElem?_eq_getElem _
  have l3 : xs[3]? = some (xs[3]'(by rw [hxl]; decide)) := List.getElem?_eq_getElem _
  have l4 : xs[4]? = some (xs[4]'(by rw [hxl]; decide)) := List.getElem?_eq_getElem _
  rw [l0, cellsIntG] at g0
  rw [l1, cellsIntG] at g1
  rw [l2, cellsU64G] at g2
  rw [l3, cellsIntG] at g3
  rw [l4, cellsU32G] at g4
  obtain ⟨n0, hn0, _, _⟩ := DataW.trod_int Try.underlying3 g0
  obtain ⟨n1, hn1, _, _⟩ := DataW.trod_int Try.underlying3 g1
  obtain ⟨n2, hn2, _, _⟩ := DataW.trod_int Try.underlying25 g2
  obtain ⟨n3, hn3, _, _⟩ := DataW.trod_int Try.underlying3 g3
  obtain ⟨n4, hn4, _, _⟩ := DataW.trod_int Try.underlying26 g4
  simp at hn0 hn1 hn2 hn3 hn4
  subst hn0
  subst hn1
  subst hn2
  subst hn3
  subst hn4
  exact ⟨⟨n0, n1, n2, n3, n4⟩, rfl⟩

theorem open_links {H : Type} {enc : TypeId × Value → H} {W : World} {base : Nat} {spare : Nat → Bool} {held : Bool} {a : Option Addr} {n c : Nat} {d : DataW H} {p : List MemPlace}
    (h : DataW.Trod enc Try.prog W base spare held 46 (.slice a n c) d p) : n ≤ c ∧ c ≤ maxLen ∧ ∃ es, Row lkc W W.heap.size a n es := by
  obtain ⟨fuel, hf⟩ := h
  rcases open_slice Try.underlying46 hf with ⟨hcs, _⟩ | ⟨x, len, cap, m, k, D, Pl, hcs, _, hl, hm, hmm, _, hi⟩
  · simp [Value.cells] at hcs
    obtain ⟨rfl, rfl, rfl⟩ := hcs
    exact ⟨Nat.le_refl _, Nat.zero_le _, [], Row.nil⟩
  · simp [Value.cells] at hcs
    obtain ⟨rfl, rfl, rfl⟩ := hcs
    have hnm : n ≤ m := by rw [hmm]; split <;> omega
    have hel : ∀ i, ∃ q : Lk, i < m → ∀ j, j < 5 → W.cell? ((x.add (i * 5)).add j) = (lkc q)[j]? := by
      intro i
      by_cases him : i < m
      · obtain ⟨cs', hc, ht⟩ := hi i him
        rw [cellsLink] at hc
        obtain ⟨_, hcl, hat⟩ := World.cells?_some hc
        obtain ⟨q, rfl⟩ := link_open hcl ht
        exact ⟨q, fun _ j hj => hat j hj⟩
      · exact ⟨default, fun h => absurd h him⟩
    obtain ⟨f, hf2⟩ := Classical.axiomOfChoice hel
    refine ⟨hl, hm, (List.range n).map f, Row.mk lkc_length (by simp) fun hn => ?_⟩
    have h0 := hf2 0 (by omega) 0 (by omega)
    obtain ⟨b, o, sp⟩ := x
    have h0' : W.cell? (((⟨b, o, sp⟩ : Addr).add (0 * 5)).add 0) = some (.int .i64 (f 0).f) := h0
    have hspot : sp = none := by simpa [Addr.add] using World.cell?_spot h0'
    subst hspot
    refine ⟨b, o, rfl, ?_, fun i hi2 j hj => ?_⟩
    · have := World.block_lt_of_cell? _ _ h0'
      rwa [add_plain, add_plain] at this
    · simp only [List.length_map, List.length_range] at hi2
      have h2 := hf2 i (by omega) j hj
      rw [add_plain, add_plain] at h2
      simpa using h2

theorem open_intsG {H : Type} {enc : TypeId × Value → H} {W : World} {base : Nat} {spare : Nat → Bool} {held : Bool} {a : Option Addr} {n c : Nat} {d : DataW H} {p : List MemPlace}
    (h : DataW.Trod enc Try.prog W base spare held 29 (.slice a n c) d p) : n ≤ c ∧ c ≤ maxLen ∧ ∃ zs, Row ei W W.heap.size a n zs := by
  obtain ⟨fuel, hf⟩ := h
  rcases open_slice Try.underlying29 hf with ⟨hcs, _⟩ | ⟨x, len, cap, m, k, D, Pl, hcs, _, hl, hm, hmm, _, hi⟩
  · simp [Value.cells] at hcs
    obtain ⟨rfl, rfl, rfl⟩ := hcs
    exact ⟨Nat.le_refl _, Nat.zero_le _, [], Row.nil⟩
  · simp [Value.cells] at hcs
    obtain ⟨rfl, rfl, rfl⟩ := hcs
    have hnm : n ≤ m := by rw [hmm]; split <;> omega
    have hel : ∀ i, ∃ q : Int, i < m → W.cell? (x.add (i * 1)) = some (.int .i64 q) := by
      intro i
      by_cases him : i < m
      · obtain ⟨cs', hc, ht⟩ := hi i him
        rw [cellsIntG] at hc
        obtain ⟨_, hcl, hat⟩ := World.cells?_some hc
        obtain ⟨q, hq, _, _⟩ := DataW.trod_int Try.underlying3 ht
        refine ⟨q, fun _ => ?_⟩
        have := hat 0 (by omega)
        rw [hq] at this
        simpa [Addr.add] using this
      · exact ⟨0, fun h => absurd h him⟩
    obtain ⟨f, hf2⟩ := Classical.axiomOfChoice hel
    refine ⟨hl, hm, (List.range n).map f, Row.mk ei_length (by simp) fun hn => ?_⟩
    have h0 := hf2 0 (by omega)
    obtain ⟨b, o, sp⟩ := x
    have hspot : sp = none := by simpa [Addr.add] using World.cell?_spot h0
    subst hspot
    refine ⟨b, o, rfl, ?_, fun i hi2 j hj => ?_⟩
    · have := World.block_lt_of_cell? _ _ h0
      rwa [add_plain] at this
    · simp only [List.length_map, List.length_range] at hi2
      have h2 := hf2 i (by omega)
      rw [add_plain] at h2
      obtain rfl : j = 0 := by omega
      simpa [ei] using h2
end Go.Proofs.Ytjflbfianncpfaa
