/-
  How an argument that is a question (viaductref16) is opened. No condition.
-/
import Derived.Test.YtogijfebfffobaaTedOpen
import Derived.Test.YtogijfebfffobaaGroupOpen
import Derived.Test.YtogijfebfffobaaPruRT
namespace Go.Proofs.Ytogijfebfffobaa
open Go.RowKit Go.ChangeShapes Go.WideShapes Go.ChangeAt Go.Deep
set_option maxRecDepth 100000
set_option linter.unusedVariables false

section
variable {H : Type} {enc : TypeId × Value → H} {W : World} {base base2 : Nat} {spare : Nat → Bool} {held : Bool}
/-- A slice of things of k cells each. -/
theorem open_rows16 {α : Type} {en : α → List Value} {k : Nat} (hk : ∀ x, (en x).length = k) (hk0 : 0 < k) {S E : TypeId} (hu : Try.prog.underlying S = some (.slice E)) (hc : Try.prog.cellsOf E = k) (df : α) {Pr : α → Prop}
    (hone : ∀ (fuel : Nat) (y : DataW H × List MemPlace) (cs : List Value), cs.length = k → DataW.trod enc Try.prog W base spare held fuel E cs = some y → ∃ x, cs = en x ∧ Pr x)
    {a : Option Addr} {n c : Nat} {d : DataW H} {p : List MemPlace} (h : DataW.Trod enc Try.prog W base spare held S (.slice a n c) d p) : n ≤ maxLen ∧ ∃ es, Row en W W.heap.size a n es ∧ ∀ x ∈ es, Pr x := by
  obtain ⟨fuel, hf⟩ := h
  rcases open_slice hu hf with ⟨hcs, _⟩ | ⟨x, len, cap, m, q, D, Pl, hcs, _, hl, hm, hmm, _, hi⟩
  · simp [Value.cells] at hcs
    obtain ⟨rfl, rfl, rfl⟩ := hcs
    exact ⟨Nat.zero_le _, [], Row.nil, by simp⟩
  · simp [Value.cells] at hcs
    obtain ⟨rfl, rfl, rfl⟩ := hcs
    have hnm : n ≤ m := by rw [hmm]; split <;> omega
    have hel : ∀ i, ∃ q : α, i < m → (∀ j, j < k → W.cell? ((x.add (i * k)).add j) = (en q)[j]?) ∧ Pr q := by
      intro i
      by_cases him : i < m
      · obtain ⟨cs', hcc, ht⟩ := hi i him
        rw [hc] at hcc
        obtain ⟨_, hcl, hat⟩ := World.cells?_some hcc
        obtain ⟨q, rfl, hw⟩ := hone _ _ _ hcl ht
        exact ⟨q, fun _ => ⟨fun j hj => hat j hj, hw⟩⟩
      · exact ⟨df, fun h => absurd h him⟩
    obtain ⟨f, hf2⟩ := Classical.axiomOfChoice hel
    refine ⟨Nat.le_trans hl hm, (List.range n).map f, Row.mk hk (by simp) fun hn => ?_, ?_⟩
    · have h0 := (hf2 0 (by omega)).1 0 hk0
      obtain ⟨v0, hv0⟩ : ∃ v0, (en (f 0))[0]? = some v0 := ⟨_, List.getElem?_eq_getElem (by rw [hk]; exact hk0)⟩
      obtain ⟨b, o, sp⟩ := x
      have h0' : W.cell? (((⟨b, o, sp⟩ : Addr).add (0 * k)).add 0) = some v0 := by rw [h0, hv0]
      have hspot : sp = none := by simpa [Addr.add] using World.cell?_spot h0'
      subst hspot
      refine ⟨b, o, rfl, ?_, fun i hi2 j hj => ?_⟩
      · have := World.block_lt_of_cell? _ _ h0'
        rwa [add_plain, add_plain] at this
      · simp only [List.length_map, List.length_range] at hi2
        have h2 := (hf2 i (by omega)).1 j hj
        rw [add_plain, add_plain] at h2
        simpa using h2
    · intro q hq
      obtain ⟨i, hi2, rfl⟩ := List.mem_map.1 hq
      have := List.mem_range.1 hi2
      exact (hf2 i (by omega)).2
theorem cellsI16 : Try.prog.cellsOf 3 = 1 := by kernel_rfl
theorem cellsU16 : Try.prog.cellsOf 31 = 1 := by kernel_rfl
theorem cellsSI16 : Try.prog.cellsOf 35 = 1 := by kernel_rfl
theorem list_two16 (cs : List Value) (h : cs.length = 2) : ∃ a b, cs = [a, b] := by
  match cs, h with
  | [a, b], _ => exact ⟨a, b, rfl⟩
theorem list_three16 (cs : List Value) (h : cs.length = 3) : ∃ a b c, cs = [a, b, c] := by
  match cs, h with
  | [a, b, c], _ => exact ⟨a, b, c, rfl⟩
theorem list_ten16 (cs : List Value) (h : cs.length = 10) : ∃ c0 c1 c2 c3 c4 c5 c6 c7 c8 c9, cs = [c0, c1, c2, c3, c4, c5, c6, c7, c8, c9] := by
  match cs, h with
  | [c0, c1, c2, c3, c4, c5, c6, c7, c8, c9], _ => exact ⟨c0, c1, c2, c3, c4, c5, c6, c7, c8, c9, rfl⟩
theorem int_open16 {fuel : Nat} {y : Option (DataW H × List MemPlace)} {v : Value} (hy : ∃ z, y = some z) (h : DataW.trod enc Try.prog W base spare held fuel 3 [v] = y) : ∃ n : Int, v = .int .i64 n := by
  obtain ⟨z, rfl⟩ := hy
  obtain ⟨n0, hn0, _, _⟩ := DataW.trod_int Try.underlying3 h
  simp at hn0
  exact ⟨n0, hn0⟩
theorem int_cell16 (fuel : Nat) (y : DataW H × List MemPlace) (cs : List Value) (hl : cs.length = 1) (h : DataW.trod enc Try.prog W base spare held fuel 3 cs = some y) : ∃ x : Int, cs = ei x ∧ True := by
  obtain ⟨n0, hn0, _, _⟩ := DataW.trod_int Try.underlying3 h
  exact ⟨n0, hn0, trivial⟩
theorem slice_open16 {S E : TypeId} (hu : Try.prog.underlying S = some (.slice E)) {fuel : Nat} {y : Option (DataW H × List MemPlace)} {v : Value} (hy : ∃ z, y = some z) (h : DataW.trod enc Try.prog W base spare held fuel S [v] = y) : ∃ (a : Option Addr) (n c : Nat), v = .slice a n c ∧ ∃ d p, DataW.Trod enc Try.prog W base spare held S (.slice a n c) d p := by
  obtain ⟨⟨d, p⟩, rfl⟩ := hy
  have hbs : ∃ (q : Option Addr) (n c : Nat), v = .slice q n c := by
    rcases open_slice hu h with ⟨hcs2, _⟩ | ⟨x, len, cap, m2, k, D, Pl, hcs2, _⟩
    · simp at hcs2; exact ⟨_, _, _, hcs2⟩
    · simp at hcs2; exact ⟨_, _, _, hcs2⟩
  obtain ⟨q, n, c, rfl⟩ := hbs
  exact ⟨q, n, c, rfl, d, p, fuel, h⟩
/-- A question's lists lie in memory. -/
def AkRow (W : World) (a : Ak) (p : Pl) : Prop := Row ei W W.heap.size p.a1 p.n1 a.nn ∧ Row prc W W.heap.size p.a2 p.n2 a.nl ∧ Row owc W W.heap.size p.a3 p.n3 a.ow
end
theorem AkRow.akin {W : World} {a : Ak} {p : Pl} (h : AkRow W a p) {n : Nat} (hs : sml16 n p = true) : AkIn W W.heap.size a p := by
  unfold sml16 at hs
  simp only [Bool.and_eq_true, decide_eq_true_eq] at hs
  exact ⟨h.1, h.2.1, h.2.2, by omega, by omega, by omega⟩
theorem AkRow.below {W W' : World} {a : Ak} {p : Pl} (h : AkRow W a p) (hb : Below W.heap.size W W') : AkRow W' a p :=
  ⟨(h.1.below hb).more hb.size, (h.2.1.below hb).more hb.size, (h.2.2.below hb).more hb.size⟩
end Go.Proofs.Ytogijfebfffobaa
