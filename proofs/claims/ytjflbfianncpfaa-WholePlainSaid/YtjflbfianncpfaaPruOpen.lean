/-
  How an argument that is a question (viaductref16) is opened. No condition.
-/
import Derived.Test.YtjflbfianncpfaaTedOpen
import Derived.Test.YtjflbfianncpfaaGroupOpen
import Derived.Test.YtjflbfianncpfaaPruRT
namespace Go.Proofs.Ytjflbfianncpfaa
open Go.RowKit Go.ChangeShapes Go.WideShapes Go.ChangeAt Go.Deep
set_option maxRecDepth 100000
set_option linter.unusedVariables false

section
variable {H : Type} {enc : TypeId × Value → H} {W : World} {base base2 : Nat} {spare : Nat → Bool} {held : Bool}
/-- A slice of things of k cells each. -/
theorem open_rows16 {α : Type} {en : α → List Value} {k : Nat} (hk : ∀ x, (en x).length = k) (hk0 : 0 < k) {S E : TypeId} (hu : Try.prog.underlying S = some (.slice E)) (hc : Try.prog.cellsOf E = k) (df : α) {Pr : α → Prop}
    (hone : ∀ (fuel : Nat) (y : DataW H × List MemPlace) (cs : List Value), cs.length = k → DataW.trod enc Try.prog W base spare held fuel E cs = some y → ∃ x, cs = en x ∧ Pr x)
    {a : Option Addr} {n c : Nat} {d : DataW H} {p : List MemPlace} (h : DataW.Trod enc Try.prog W base spare held S (.slice a n c) d p) : n ≤ maxLen ∧ ∃ es, Row en W W.heap.size a n es ∧ ∀ x ∈ es, Pr x := by
  obtain ⟨fuel, hf⟩ := h
  rcases open_slice hu hf with ⟨hcs, _⟩ | ⟨x, len, cap, m, q, D, Pl, hcs, _, hl, hm, hmm, _, hi⟩
  · simp [Value.cells] at hcs
    obtain ⟨rfl, rfl, rfl⟩ := hcs
    exact ⟨Nat.zero_le _, [], Row.nil, by simp⟩
  · simp [Value.cells] at hcs
    obtain ⟨rfl, rfl, rfl⟩ := hcs
    have hnm : n ≤ m := by rw [hmm]; split <;> omega
    have hel : ∀ i, ∃ q : α, i < m → (∀ j, j < k → W.cell? ((x.add (i * k)).add j) = (en q)[j]?) ∧ Pr q := by
      intro i
      by_cases him : i < m
      · obtain ⟨cs', hcc, ht⟩ := hi i him
        rw [hc] at hcc
        obtain ⟨_, hcl, hat⟩ := World.cells?_some hcc
        obtain ⟨q, rfl, hw⟩ := hone _ _ _ hcl ht
        exact ⟨q, fun _ => ⟨fun j hj => hat j hj, hw⟩⟩
      · exact ⟨df, fun h => absurd h him⟩
    obtain ⟨f, hf2⟩ := Classical.axiomOfChoice hel
    refine ⟨Nat.le_trans hl hm, (List.range n).map f, Row.mk hk (by simp) fun hn => ?_, ?_⟩
    · have h0 := (hf2 0 (by omega)).1 0 hk0
      obtain ⟨v0, hv0⟩ : ∃ v0, (en (f 0))[0]? = some v0 := ⟨_, List.getElem?_eq_getElem (by rw [hk]; exact hk0)⟩
      obtain ⟨b, o, sp⟩ := x
      have h0' : W.cell? (((⟨b, o, sp⟩ : Addr).add (0 * k)).add 0) = some v0 := by rw [h0, hv0]
      have hspot : sp = none := by simpa [Addr.add] using World.cell?_spot h0'
      subst hspot
      refine ⟨b, o, rfl, ?_, fun i hi2 j hj => ?_⟩
      · have := World.block_lt_of_cell? _ _ h0'
        rwa [add_plain, add_plain] at this
      · simp only [List.length_map, List.length_range] at hi2
        have h2 := (hf2 i (by omega)).1 j hj
        rw [add_plain, add_plain] at h2
        simpa using h2
    · intro q hq
      obtain ⟨i, hi2, rfl⟩ := List.mem_map.1 hq
      have := List.mem_range.1 hi2
      exact (hf2 i (by omega)).2
theorem cellsAk16 : Try.prog.cellsOf 33 = 10 := by kernel_rfl
theorem cellsOw16 : Try.prog.cellsOf 101 = 3 := by kernel_rfl
theorem cellsPr16 : Try.prog.cellsOf 51 = 2 := by kernel_rfl
theorem cellsI16 : Try.prog.cellsOf 3 = 1 := by kernel_rfl
theorem cellsU16 : Try.prog.cellsOf 25 = 1 := by kernel_rfl
theorem cellsSI16 : Try.prog.cellsOf 29 = 1 := by kernel_rfl
theorem cellsSP16 : Try.prog.cellsOf 30 = 1 := by kernel_rfl
theorem cellsSO16 : Try.prog.cellsOf 31 = 1 := by kernel_rfl
theorem list_two16 (cs : List Value) (h : cs.length = 2) : ∃ a b, cs = [a, b] := by
  match cs, h with
  | [a, b], _ => exact ⟨a, b, rfl⟩
theorem list_three16 (cs : List Value) (h : cs.length = 3) : ∃ a b c, cs = [a, b, c] := by
  match cs, h with
  | [a, b, c], _ => exact ⟨a, b, c, rfl⟩
theorem list_ten16 (cs : List Value) (h : cs.length = 10) : ∃ c0 c1 c2 c3 c4 c5 c6 c7 c8 c9, cs = [c0, c1, c2, c3, c4, c5, c6, c7, c8, c9] := by
  match cs, h with
  | [c0, c1, c2, c3, c4, c5, c6, c7, c8, c9], _ => exact ⟨c0, c1, c2, c3, c4, c5, c6, c7, c8, c9, rfl⟩
theorem int_open16 {fuel : Nat} {y : Option (DataW H × List MemPlace)} {v : Value} (hy : ∃ z, y = some z) (h : DataW.trod enc Try.prog W base spare held fuel 3 [v] = y) : ∃ n : Int, v = .int .i64 n := by
  obtain ⟨z, rfl⟩ := hy
  obtain ⟨n0, hn0, _, _⟩ := DataW.trod_int Try.underlying3 h
  simp at hn0
  exact ⟨n0, hn0⟩
theorem int_cell16 (fuel : Nat) (y : DataW H × List MemPlace) (cs : List Value) (hl : cs.length = 1) (h : DataW.trod enc Try.prog W base spare held fuel 3 cs = some y) : ∃ x : Int, cs = ei x ∧ True := by
  obtain ⟨n0, hn0, _, _⟩ := DataW.trod_int Try.underlying3 h
  exact ⟨n0, hn0, trivial⟩
theorem pr_cells16 (fuel : Nat) (y : DataW H × List MemPlace) (cs : List Value) (hl : cs.length = 2) (h : DataW.trod enc Try.prog W base spare held fuel 51 cs = some y) : ∃ x : Int × Int, cs = prc x ∧ True := by
  obtain ⟨xs, m, _, _, _, hxl, hg⟩ := DataW.trod_array Try.underlying51 h
  obtain ⟨a, b, rfl⟩ := list_two16 cs hl
  rw [cellsI16] at hg
  obtain ⟨n0, rfl⟩ := int_open16 ⟨_, List.getElem?_eq_getElem (by rw [hxl]; decide)⟩ (hg 0 (by decide))
  obtain ⟨n1, rfl⟩ := int_open16 ⟨_, List.getElem?_eq_getElem (by rw [hxl]; decide)⟩ (hg 1 (by decide))
  exact ⟨(n0, n1), rfl, trivial⟩
theorem ow_cells16 (fuel : Nat) (y : DataW H × List MemPlace) (cs : List Value) (hl : cs.length = 3) (h : DataW.trod enc Try.prog W base spare held fuel 101 cs = some y) : ∃ x : Ow, cs = owc x ∧ x.b < 18446744073709551616 := by
  obtain ⟨xs, m, _, _, _, hxl, hf⟩ := DataW.trod_struct Try.underlying101 h
  obtain ⟨a, b, c, rfl⟩ := list_three16 cs hl
  have g0 : DataW.trod enc Try.prog W base spare held m 3 (([a, b, c].drop 0).take (Try.prog.cellsOf 3)) = xs[0]? := hf 0 _ rfl
  have g1 : DataW.trod enc Try.prog W base spare held m 3 (([a, b, c].drop 1).take (Try.prog.cellsOf 3)) = xs[1]? := hf 1 _ rfl
  have g2 : DataW.trod enc Try.prog W base spare held m 25 (([a, b, c].drop 2).take (Try.prog.cellsOf 25)) = xs[2]? := hf 2 _ rfl
  rw [cellsI16] at g0 g1
  rw [cellsU16] at g2
  obtain ⟨n0, rfl⟩ := int_open16 ⟨_, List.getElem?_eq_getElem (by rw [hxl]; decide)⟩ g0
  obtain ⟨n1, rfl⟩ := int_open16 ⟨_, List.getElem?_eq_getElem (by rw [hxl]; decide)⟩ g1
  obtain ⟨n2, hb, rfl⟩ := num_15 ⟨_, List.getElem?_eq_getElem (by rw [hxl]; decide)⟩ g2
  exact ⟨⟨n0, n1, n2⟩, rfl, hb⟩
theorem slice_open16 {S E : TypeId} (hu : Try.prog.underlying S = some (.slice E)) {fuel : Nat} {y : Option (DataW H × List MemPlace)} {v : Value} (hy : ∃ z, y = some z) (h : DataW.trod enc Try.prog W base spare held fuel S [v] = y) : ∃ (a : Option Addr) (n c : Nat), v = .slice a n c ∧ ∃ d p, DataW.Trod enc Try.prog W base spare held S (.slice a n c) d p := by
  obtain ⟨⟨d, p⟩, rfl⟩ := hy
  have hbs : ∃ (q : Option Addr) (n c : Nat), v = .slice q n c := by
    rcases open_slice hu h with ⟨hcs2, _⟩ | ⟨x, len, cap, m2, k, D, Pl, hcs2, _⟩
    · simp at hcs2; exact ⟨_, _, _, hcs2⟩
    · simp at hcs2; exact ⟨_, _, _, hcs2⟩
  obtain ⟨q, n, c, rfl⟩ := hbs
  exact ⟨q, n, c, rfl, d, p, fuel, h⟩
/-- A question's lists lie in memory. -/
def AkRow (W : World) (a : Ak) (p : Pl) : Prop := Row ei W W.heap.size p.a1 p.n1 a.nn ∧ Row prc W W.heap.size p.a2 p.n2 a.nl ∧ Row owc W W.heap.size p.a3 p.n3 a.ow
theorem open_ak16 {r : Reach} {v : Value} {d : DataW H} {p : List MemPlace}
    (hv : Value.okWide Try.prog W r base2 33 v) (h : DataW.Trod enc Try.prog W base spare held 33 v d p) :
    ∃ (a : Ak) (q : Pl) (_ : AkOk a ∧ AkRow W a q ∧ q.n1 ≤ maxLen ∧ q.n2 ≤ maxLen ∧ q.n3 ≤ maxLen), v = .agg (akc a.w q).toArray := by
  obtain ⟨cs, rfl, hsz⟩ := okWide_struct Try.underlying33 hv
  obtain ⟨fuel, hf⟩ := h
  rw [cellsAk16] at hsz
  obtain ⟨xs, m, _, _, _, hxl, hg⟩ := DataW.trod_struct Try.underlying33 hf
  obtain ⟨c0, c1, c2, c3, c4, c5, c6, c7, c8, c9, hab⟩ := list_ten16 cs.toList (by simpa using hsz)
  have hcs : (Value.agg cs).cells.toList = [c0, c1, c2, c3, c4, c5, c6, c7, c8, c9] := by simpa [Value.cells] using hab
  rw [hcs] at hg
  have g0 : DataW.trod enc Try.prog W base spare held m 28 (([c0, c1, c2, c3, c4, c5, c6, c7, c8, c9].drop 0).take (Try.prog.cellsOf 28)) = xs[0]? := hg 0 _ rfl
  have g1 : DataW.trod enc Try.prog W base spare held m 29 (([c0, c1, c2, c3, c4, c5, c6, c7, c8, c9].drop 6).take (Try.prog.cellsOf 29)) = xs[1]? := hg 1 _ rfl
  have g2 : DataW.trod enc Try.prog W base spare held m 30 (([c0, c1, c2, c3, c4, c5, c6, c7, c8, c9].drop 7).take (Try.prog.cellsOf 30)) = xs[2]? := hg 2 _ rfl
  have g3 : DataW.trod enc Try.prog W base spare held m 31 (([c0, c1, c2, c3, c4, c5, c6, c7, c8, c9].drop 8).take (Try.prog.cellsOf 31)) = xs[3]? := hg 3 _ rfl
  have g4 : DataW.trod enc Try.prog W base spare held m 3 (([c0, c1, c2, c3, c4, c5, c6, c7, c8, c9].drop 9).take (Try.prog.cellsOf 3)) = xs[4]? := hg 4 _ rfl
  rw [cellsWant] at g0
  rw [cellsSI16] at g1
  rw [cellsSP16] at g2
  rw [cellsSO16] at g3
  rw [cellsI16] at g4
  have l0 : xs[0]? = some (xs[0]'(by rw [hxl]; decide)) := List.getElem?_eq_getElem _
  rw [l0] at g0
  obtain ⟨w, hw, hwe⟩ := want_cells rfl g0
  obtain ⟨a1, n1, k1, rfl, d1, p1, t1⟩ := slice_open16 Try.underlying29 ⟨_, List.getElem?_eq_getElem (by rw [hxl]; decide)⟩ g1
  obtain ⟨a2, n2, k2, rfl, d2, p2, t2⟩ := slice_open16 Try.underlying30 ⟨_, List.getElem?_eq_getElem (by rw [hxl]; decide)⟩ g2
  obtain ⟨a3, n3, k3, rfl, d3, p3, t3⟩ := slice_open16 Try.underlying31 ⟨_, List.getElem?_eq_getElem (by rw [hxl]; decide)⟩ g3
  obtain ⟨ho, rfl⟩ := int_open16 ⟨_, List.getElem?_eq_getElem (by rw [hxl]; decide)⟩ g4
  obtain ⟨m1, nn, r1, _⟩ := open_rows16 ei_length (by decide) Try.underlying29 cellsI16 0 int_cell16 t1
  obtain ⟨m2, nl, r2, _⟩ := open_rows16 prc_length (by decide) Try.underlying30 cellsPr16 (0, 0) pr_cells16 t2
  obtain ⟨m3, ow, r3, hb⟩ := open_rows16 owc_length (by decide) Try.underlying31 cellsOw16 ⟨0, 0, 0⟩ ow_cells16 t3
  refine ⟨⟨w, nn, nl, ow⟩, ⟨a1, n1, k1, a2, n2, k2, a3, n3, k3, ho⟩, ⟨⟨hw, hb⟩, ⟨r1, r2, r3⟩, m1, m2, m3⟩, ?_⟩
  cases cs
  simp at hab
  subst hab
  simp [wnc] at hwe
  obtain ⟨rfl, rfl, rfl, rfl, rfl, rfl⟩ := hwe
  rfl
end
theorem AkRow.akin {W : World} {a : Ak} {p : Pl} (h : AkRow W a p) {n : Nat} (hs : sml16 n p = true) : AkIn W W.heap.size a p := by
  unfold sml16 at hs
  simp only [Bool.and_eq_true, decide_eq_true_eq] at hs
  exact ⟨h.1, h.2.1, h.2.2, by omega, by omega, by omega⟩
theorem AkRow.below {W W' : World} {a : Ak} {p : Pl} (h : AkRow W a p) (hb : Below W.heap.size W W') : AkRow W' a p :=
  ⟨(h.1.below hb).more hb.size, (h.2.1.below hb).more hb.size, (h.2.2.below hb).more hb.size⟩
end Go.Proofs.Ytjflbfianncpfaa
