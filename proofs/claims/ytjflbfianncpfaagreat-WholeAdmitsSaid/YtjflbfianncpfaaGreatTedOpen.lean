/-
  How an argument that is an advert, and one that is a slice of adverts, of truths, of bytes, or a network, is opened. No condition.
-/
import Derived.Test.YtjflbfianncpfaaGreatOpen
import Derived.Test.YtjflbfianncpfaaGreatTecA
import Derived.Deep.Fields
namespace Go.Proofs.YtjflbfianncpfaaGreat
open Go.RowKit Go.ChangeShapes Go.WideShapes Go.ChangeAt Go.Deep
set_option maxRecDepth 100000
set_option linter.unusedVariables false

theorem cellsLink15 : Tryz.prog.cellsOf 44 = 5 := by kernel_rfl
theorem cellsArr15 : Tryz.prog.cellsOf 36 = 8 := by kernel_rfl
theorem cellsU64_15 : Tryz.prog.cellsOf 26 = 1 := by kernel_rfl
theorem cellsU32_15 : Tryz.prog.cellsOf 27 = 1 := by kernel_rfl
theorem cellsInt_15 : Tryz.prog.cellsOf 3 = 1 := by kernel_rfl
theorem cellsBool_15 : Tryz.prog.cellsOf 4 = 1 := by kernel_rfl
theorem list_five15 (cs : List Value) (h : cs.length = 5) : ∃ a b c d e, cs = [a, b, c, d, e] := by
  match cs, h with
  | [a, b, c, d, e], _ => exact ⟨a, b, c, d, e, rfl⟩
theorem list_fifteen (cs : List Value) (h : cs.length = 15) : ∃ c0 c1 c2 c3 c4 c5 c6 c7 c8 c9 c10 c11 c12 c13 c14, cs = [c0, c1, c2, c3, c4, c5, c6, c7, c8, c9, c10, c11, c12, c13, c14] := by
  match cs, h with
  | [c0, c1, c2, c3, c4, c5, c6, c7, c8, c9, c10, c11, c12, c13, c14], _ => exact ⟨c0, c1, c2, c3, c4, c5, c6, c7, c8, c9, c10, c11, c12, c13, c14, rfl⟩
theorem wf_u32_15 {n : Int} (h : (Lit.int .u32 n).wf = true) : 0 ≤ n ∧ n < 4294967296 := by
  have h2 : IntKind.u32.min ≤ n ∧ n ≤ IntKind.u32.max := by simpa [Lit.wf] using h
  have e1 : IntKind.u32.min = 0 := by decide
  have e2 : IntKind.u32.max = 4294967295 := by decide
  omega
/-- Cap and Groups as large as their types allow. -/
def LkB (x : Lk) : Prop := 0 ≤ x.c ∧ x.c < 18446744073709551616 ∧ 0 ≤ x.g ∧ x.g < 4294967296
section
variable {H : Type} {enc : TypeId × Value → H} {W : World} {base base2 : Nat} {spare : Nat → Bool} {held : Bool}
theorem num_15 {fuel : Nat} {y : Option (DataW H × List MemPlace)} {v : Value} (hy : ∃ z, y = some z)
    (h : DataW.trod enc Tryz.prog W base spare held fuel 26 [v] = y) : ∃ n : Nat, n < 18446744073709551616 ∧ v = .int .u64 (n : Int) := by
  obtain ⟨z, rfl⟩ := hy
  obtain ⟨n0, hn0, _, k0⟩ := DataW.trod_int Tryz.underlying26 h
  simp at hn0
  subst hn0
  have j0 := wf_u64 k0
  obtain ⟨m0, rfl⟩ := Int.eq_ofNat_of_zero_le j0.1
  exact ⟨m0, by omega, rfl⟩
theorem link_open15 {fuel : Nat} {y : Option (DataW H × List MemPlace)} {cs : List Value} (hy : ∃ z, y = some z) (hl : cs.length = 5)
    (h : DataW.trod enc Tryz.prog W base spare held fuel 44 cs = y) : ∃ x : Lk, cs = lkc x ∧ LkB x := by
  obtain ⟨z, rfl⟩ := hy
  obtain ⟨xs, m, _, _, _, hxl, hf⟩ := DataW.trod_struct Tryz.underlying44 h
  obtain ⟨a, b, c, d, e, rfl⟩ := list_five15 cs hl
  have g0 : DataW.trod enc Tryz.prog W base spare held m 3 (([a, b, c, d, e].drop 0).take (Tryz.prog.cellsOf 3)) = xs[0]? := hf 0 _ rfl
  have g1 : DataW.trod enc Tryz.prog W base spare held m 3 (([a, b, c, d, e].drop 1).take (Tryz.prog.cellsOf 3)) = xs[1]? := hf 1 _ rfl
  have g2 : DataW.trod enc Tryz.prog W base spare held m 26 (([a, b, c, d, e].drop 2).take (Tryz.prog.cellsOf 26)) = xs[2]? := hf 2 _ rfl
  have g3 : DataW.trod enc Tryz.prog W base spare held m 3 (([a, b, c, d, e].drop 3).take (Tryz.prog.cellsOf 3)) = xs[3]? := hf 3 _ rfl
  have g4 : DataW.trod enc Tryz.prog W base spare held m 27 (([a, b, c, d, e].drop 4).take (Tryz.prog.cellsOf 27)) = xs[4]? := hf 4 _ rfl
  have l0 : xs[0]? = some (xs[0]'(by rw [hxl]; decide)) := List.getElem?_eq_getElem _
  have l1 : xs[1]? = some (xs[1]'(by rw [hxl]; decide)) := List.getElem?_eq_getElem _
  have l2 : xs[2]? = some (xs[2]'(by rw [hxl]; decide)) := List.getElem?_eq_getElem _
  have l3 : xs[3]? = some (xs[3]'(by rw [hxl]; decide)) := List.getElem?_eq_getElem _
  have l4 : xs[4]? = some (xs[4]'(by rw [hxl]; decide)) := List.getElem?_eq_getElem _
  rw [l0, cellsInt_15] at g0
  rw [l1, cellsInt_15] at g1
  rw [l2, cellsU64_15] at g2
  rw [l3, cellsInt_15] at g3
  rw [l4, cellsU32_15] at g4
  obtain ⟨n0, hn0, _, _⟩ := DataW.trod_int Tryz.underlying3 g0
  obtain ⟨n1, hn1, _, _⟩ := DataW.trod_int Tryz.underlying3 g1
  obtain ⟨n2, hn2, _, k2⟩ := DataW.trod_int Tryz.underlying26 g2
  obtain ⟨n3, hn3, _, _⟩ := DataW.trod_int Tryz.underlying3 g3
  obtain ⟨n4, hn4, _, k4⟩ := DataW.trod_int Tryz.underlying27 g4
  simp at hn0 hn1 hn2 hn3 hn4
  subst hn0
  subst hn1
  subst hn2
  subst hn3
  subst hn4
  have b2 := wf_u64 k2
  have b4 := wf_u32_15 k4
  exact ⟨⟨n0, n1, n2, n3, n4⟩, rfl, b2.1, b2.2, b4.1, b4.2⟩
theorem open_links15 {a : Option Addr} {n c : Nat} {d : DataW H} {p : List MemPlace}
    (h : DataW.Trod enc Tryz.prog W base spare held 22 (.slice a n c) d p) : n ≤ maxLen ∧ ∃ es, Row lkc W W.heap.size a n es ∧ ∀ x ∈ es, LkB x := by
  obtain ⟨fuel, hf⟩ := h
  rcases open_slice Tryz.underlying22 hf with ⟨hcs, _⟩ | ⟨x, len, cap, m, k, D, Pl, hcs, _, hl, hm, hmm, _, hi⟩
  · simp [Value.cells] at hcs
    obtain ⟨rfl, rfl, rfl⟩ := hcs
    exact ⟨Nat.zero_le _, [], Row.nil, by simp⟩
  · simp [Value.cells] at hcs
    obtain ⟨rfl, rfl, rfl⟩ := hcs
    have hnm : n ≤ m := by rw [hmm]; split <;> omega
    have hel : ∀ i, ∃ q : Lk, i < m → (∀ j, j < 5 → W.cell? ((x.add (i * 5)).add j) = (lkc q)[j]?) ∧ LkB q := by
      intro i
      by_cases him : i < m
      · obtain ⟨cs', hc, ht⟩ := hi i him
        rw [cellsLink15] at hc
        obtain ⟨_, hcl, hat⟩ := World.cells?_some hc
        obtain ⟨q, rfl, hw⟩ := link_open15 ⟨_, rfl⟩ hcl ht
        exact ⟨q, fun _ => ⟨fun j hj => hat j hj, hw⟩⟩
      · exact ⟨default, fun h => absurd h him⟩
    obtain ⟨f, hf2⟩ := Classical.axiomOfChoice hel
    refine ⟨Nat.le_trans hl hm, (List.range n).map f, Row.mk lkc_length (by simp) fun hn => ?_, ?_⟩
    · have h0 := (hf2 0 (by omega)).1 0 (by omega)
      obtain ⟨b, o, sp⟩ := x
      have h0' : W.cell? (((⟨b, o, sp⟩ : Addr).add (0 * 5)).add 0) = some (.int .i64 (f 0).f) := h0
      have hspot : sp = none := by simpa [Addr.add] using World.cell?_spot h0'
      subst hspot
      refine ⟨b, o, rfl, ?_, fun i hi2 j hj => ?_⟩
      · have := World.block_lt_of_cell? _ _ h0'
        rwa [add_plain, add_plain] at this
      · simp only [List.length_map, List.length_range] at hi2
        have h2 := (hf2 i (by omega)).1 j hj
        rw [add_plain, add_plain] at h2
        simpa using h2
    · intro q hq
      obtain ⟨i, hi2, rfl⟩ := List.mem_map.1 hq
      have := List.mem_range.1 hi2
      exact (hf2 i (by omega)).2
theorem cellsLinks15 : Tryz.prog.cellsOf 22 = 1 := by kernel_rfl
theorem list_two15 (cs : List Value) (h : cs.length = 2) : ∃ a b, cs = [a, b] := by
  match cs, h with
  | [a, b], _ => exact ⟨a, b, rfl⟩
def eb15 (d : Bool) : List Value := [.bool d]
theorem eb15_length (d : Bool) : (eb15 d).length = 1 := rfl
end
end Go.Proofs.YtjflbfianncpfaaGreat
