/-
  How an argument that is a ledger, a call, and one that is a slice of calls are opened. No condition.
-/
import Derived.Test.YtpnjjeplgkaaoaaOpen
import Derived.Test.YtpnjjeplgkaaoaaLedgT
import Derived.Deep.Fields
namespace Go.Proofs.Ytpnjjeplgkaaoaa
open Go.RowKit Go.ChangeShapes Go.WideShapes Go.ChangeAt Go.Deep
set_option maxRecDepth 100000

theorem cellsLedgR : Try.prog.cellsOf 25 = 9 := by kernel_rfl
theorem cellsArr13 : Try.prog.cellsOf 23 = 8 := by kernel_rfl
theorem cellsU64_13 : Try.prog.cellsOf 22 = 1 := by kernel_rfl
theorem cellsInt_13 : Try.prog.cellsOf 3 = 1 := by kernel_rfl
theorem cellsBool_13 : Try.prog.cellsOf 4 = 1 := by kernel_rfl
theorem cellsAct_13 : Try.prog.cellsOf 47 = 3 := by kernel_rfl

theorem list_nine (cs : List Value) (h : cs.length = 9) : ∃ a b c d e f g i j, cs = [a, b, c, d, e, f, g, i, j] := by
  match cs, h with
  | [a, b, c, d, e, f, g, i, j], _ => exact ⟨a, b, c, d, e, f, g, i, j, rfl⟩
theorem list_three13 (cs : List Value) (h : cs.length = 3) : ∃ a b c, cs = [a, b, c] := by
  match cs, h with
  | [a, b, c], _ => exact ⟨a, b, c, rfl⟩

/-- One number of 64 bits. -/
theorem num_13 {H : Type} {enc : TypeId × Value → H} {W : World} {base : Nat} {spare : Nat → Bool} {held : Bool} {fuel : Nat} {y : Option (DataW H × List MemPlace)} {v : Value} (hy : ∃ z, y = some z)
    (h : DataW.trod enc Try.prog W base spare held fuel 22 [v] = y) : ∃ n : Nat, n < 18446744073709551616 ∧ v = .int .u64 (n : Int) := by
  obtain ⟨z, rfl⟩ := hy
  obtain ⟨n0, hn0, _, k0⟩ := DataW.trod_int Try.underlying22 h
  simp at hn0
  subst hn0
  have j0 := wf_u64 k0
  obtain ⟨m0, rfl⟩ := Int.eq_ofNat_of_zero_le j0.1
  exact ⟨m0, by omega, rfl⟩

theorem ledg_cells {H : Type} {enc : TypeId × Value → H} {W : World} {base : Nat} {spare : Nat → Bool} {held : Bool} {fuel : Nat} {y : DataW H × List MemPlace} {cs : List Value} (hl : cs.length = 9)
    (h : DataW.trod enc Try.prog W base spare held fuel 25 cs = some y) : ∃ l : Lg, LgOk l ∧ cs = lgc l := by
  obtain ⟨xs, m, _, _, _, hxl, hf⟩ := DataW.trod_struct Try.underlying25 h
  obtain ⟨a, b, c, d, e, f, g, i, j, rfl⟩ := list_nine cs hl
  have g0 : DataW.trod enc Try.prog W base spare held m 22 (([a, b, c, d, e, f, g, i, j].drop 0).take (Try.prog.cellsOf 22)) = xs[0]? := hf 0 _ rfl
  have g1 : DataW.trod enc Try.prog W base spare held m 23 (([a, b, c, d, e, f, g, i, j].drop 1).take (Try.prog.cellsOf 23)) = xs[1]? := hf 1 _ rfl
  have l0 : xs[0]? = some (xs[0]'(by rw [hxl]; decide)) := List.getElem?_eq_getElem _
  have l1 : xs[1]? = some (xs[1]'(by rw [hxl]; decide)) := List.getElem?_eq_getElem _
  rw [cellsU64_13] at g0
  rw [l1, cellsArr13] at g1
  obtain ⟨n0, b0, hn0⟩ := num_13 ⟨_, l0⟩ g0
  obtain ⟨ys, m2, _, _, _, hyl, hg⟩ := DataW.trod_array Try.underlying23 g1
  rw [cellsU64_13] at hg
  have q0 := num_13 ⟨_, List.getElem?_eq_getElem (by rw [hyl]; decide)⟩ (hg 0 (by decide))
  have q1 := num_13 ⟨_, List.getElem?_eq_getElem (by rw [hyl]; decide)⟩ (hg 1 (by decide))
  have q2 := num_13 ⟨_, List.getElem?_eq_getElem (by rw [hyl]; decide)⟩ (hg 2 (by decide))
  have q3 := num_13 ⟨_, List.getElem?_eq_getElem (by rw [hyl]; decide)⟩ (hg 3 (by decide))
  have q4 := num_13 ⟨_, List.getElem?_eq_getElem (by rw [hyl]; decide)⟩ (hg 4 (by decide))
  have q5 := num_13 ⟨_, List.getElem?_eq_getElem (by rw [hyl]; decide)⟩ (hg 5 (by decide))
  have q6 := num_13 ⟨_, List.getElem?_eq_getElem (by rw [hyl]; decide)⟩ (hg 6 (by decide))
  have q7 := num_13 ⟨_, List.getElem?_eq_getElem (by rw [hyl]; decide)⟩ (hg 7 (by decide))
  obtain ⟨n1, b1, rfl⟩ := q0
  obtain ⟨n2, b2, rfl⟩ := q1
  obtain ⟨n3, b3, rfl⟩ := q2
  obtain ⟨n4, b4, rfl⟩ := q3
  obtain ⟨n5, b5, rfl⟩ := q4
  obtain ⟨n6, b6, rfl⟩ := q5
  obtain ⟨n7, b7, rfl⟩ := q6
  obtain ⟨n8, b8, rfl⟩ := q7
  subst hn0
  refine ⟨⟨n0, [n1, n2, n3, n4, n5, n6, n7, n8]⟩, ⟨rfl, b0, ?_⟩, rfl⟩
  intro n hn
  simp at hn
  rcases hn with rfl | rfl | rfl | rfl | rfl | rfl | rfl | rfl <;> assumption
theorem open_ledg {H : Type} {enc : TypeId × Value → H} {W : World} {base base2 : Nat} {spare : Nat → Bool} {held : Bool} {r : Reach} {v : Value} {d : DataW H} {p : List MemPlace}
    (hv : Value.okWide Try.prog W r base2 25 v) (h : DataW.Trod enc Try.prog W base spare held 25 v d p) : ∃ (l : Lg) (_ : LgOk l), v = .agg (lgc l).toArray := by
  obtain ⟨cs, rfl, hsz⟩ := okWide_struct Try.underlying25 hv
  obtain ⟨fuel, hf⟩ := h
  rw [cellsLedgR] at hsz
  obtain ⟨x, hx, he⟩ := ledg_cells (by simpa [Value.cells] using hsz) hf
  refine ⟨x, hx, ?_⟩
  have he' : cs.toList = lgc x := by simpa [Value.cells] using he
  rw [← he']

/-- A call: with less, at which priority, how much. -/
structure Ac13 where
  tk : Bool
  p : Int
  bw : Nat
def a13 (x : Ac13) : List Value := [.bool x.tk, .int .i64 x.p, .int .u64 (x.bw : Int)]
theorem a13_length (x : Ac13) : (a13 x).length = 3 := rfl
def Ac13Ok (x : Ac13) : Prop := (-9223372036854775808 ≤ x.p ∧ x.p < 9223372036854775808) ∧ x.bw < 18446744073709551616
theorem act13_cells {H : Type} {enc : TypeId × Value → H} {W : World} {base : Nat} {spare : Nat → Bool} {held : Bool} {fuel : Nat} {y : DataW H × List MemPlace} {cs : List Value} (hl : cs.length = 3)
    (h : DataW.trod enc Try.prog W base spare held fuel 47 cs = some y) : ∃ x : Ac13, cs = a13 x ∧ Ac13Ok x := by
  obtain ⟨xs, m, _, _, _, hxl, hf⟩ := DataW.trod_struct Try.underlying47 h
  obtain ⟨a, b, c, rfl⟩ := list_three13 cs hl
  have g0 : DataW.trod enc Try.prog W base spare held m 4 (([a, b, c].drop 0).take (Try.prog.cellsOf 4)) = xs[0]? := hf 0 _ rfl
  have g1 : DataW.trod enc Try.prog W base spare held m 3 (([a, b, c].drop 1).take (Try.prog.cellsOf 3)) = xs[1]? := hf 1 _ rfl
  have g2 : DataW.trod enc Try.prog W base spare held m 22 (([a, b, c].drop 2).take (Try.prog.cellsOf 22)) = xs[2]? := hf 2 _ rfl
  have l0 : xs[0]? = some (xs[0]'(by rw [hxl]; decide)) := List.getElem?_eq_getElem _
  have l1 : xs[1]? = some (xs[1]'(by rw [hxl]; decide)) := List.getElem?_eq_getElem _
  have l2 : xs[2]? = some (xs[2]'(by rw [hxl]; decide)) := List.getElem?_eq_getElem _
  rw [l0, cellsBool_13] at g0
  rw [l1, cellsInt_13] at g1
  rw [cellsU64_13] at g2
  obtain ⟨t, ht, _⟩ := DataW.trod_bool Try.underlying4 g0
  obtain ⟨n1, hn1, _, k1⟩ := DataW.trod_int Try.underlying3 g1
  obtain ⟨n2, b2, hn2⟩ := num_13 ⟨_, l2⟩ g2
  simp at ht hn1
  subst ht
  subst hn1
  subst hn2
  exact ⟨⟨t, n1, n2⟩, rfl, wf_i64 k1, b2⟩
theorem open_act13 {H : Type} {enc : TypeId × Value → H} {W : World} {base base2 : Nat} {spare : Nat → Bool} {held : Bool} {r : Reach} {v : Value} {d : DataW H} {p : List MemPlace}
    (hv : Value.okWide Try.prog W r base2 47 v) (h : DataW.Trod enc Try.prog W base spare held 47 v d p) : ∃ (x : Ac13) (_ : Ac13Ok x), v = .agg #[.bool x.tk, .int .i64 x.p, .int .u64 (x.bw : Int)] := by
  obtain ⟨cs, rfl, hsz⟩ := okWide_struct Try.underlying47 hv
  obtain ⟨fuel, hf⟩ := h
  rw [cellsAct_13] at hsz
  obtain ⟨x, he, hx⟩ := act13_cells (by simpa [Value.cells] using hsz) hf
  refine ⟨x, hx, ?_⟩
  have he' : cs.toList = a13 x := by simpa [Value.cells] using he
  cases cs; simp only [a13] at he'; subst he'; rfl
theorem open_acts13 {H : Type} {enc : TypeId × Value → H} {W : World} {base : Nat} {spare : Nat → Bool} {held : Bool} {a : Option Addr} {n c : Nat} {d : DataW H} {p : List MemPlace}
    (h : DataW.Trod enc Try.prog W base spare held 45 (.slice a n c) d p) : n ≤ maxLen ∧ ∃ es, Row a13 W W.heap.size a n es ∧ ∀ x ∈ es, Ac13Ok x := by
  obtain ⟨fuel, hf⟩ := h
  rcases open_slice Try.underlying45 hf with ⟨hcs, _⟩ | ⟨x, len, cap, m, k, D, Pl, hcs, _, hl, hm, hmm, _, hi⟩
  · simp [Value.cells] at hcs
    obtain ⟨rfl, rfl, rfl⟩ := hcs
    exact ⟨Nat.zero_le _, [], Row.nil, by simp⟩
  · simp [Value.cells] at hcs
    obtain ⟨rfl, rfl, rfl⟩ := hcs
    have hnm : n ≤ m := by rw [hmm]; split <;> omega
    have hel : ∀ i, ∃ q : Ac13, i < m → (∀ j, j < 3 → W.cell? ((x.add (i * 3)).add j) = (a13 q)[j]?) ∧ Ac13Ok q := by
      intro i
      by_cases him : i < m
      · obtain ⟨cs', hc, ht⟩ := hi i him
        rw [cellsAct_13] at hc
        obtain ⟨_, hcl, hat⟩ := World.cells?_some hc
        obtain ⟨q, rfl, hw⟩ := act13_cells hcl ht
        exact ⟨q, fun _ => ⟨fun j hj => hat j hj, hw⟩⟩
      · exact ⟨⟨false, 0, 0⟩, fun h => absurd h him⟩
    obtain ⟨f, hf2⟩ := Classical.axiomOfChoice hel
    refine ⟨Nat.le_trans hl hm, (List.range n).map f, Row.mk a13_length (by simp) fun hn => ?_, ?_⟩
    · have h0 := (hf2 0 (by omega)).1 0 (by omega)
      obtain ⟨b, o, sp⟩ := x
      have h0' : W.cell? (((⟨b, o, sp⟩ : Addr).add (0 * 3)).add 0) = some (.bool (f 0).tk) := h0
      have hspot : sp = none := by simpa [Addr.add] using World.cell?_spot h0'
      subst hspot
      refine ⟨b, o, rfl, ?_, fun i hi2 j hj => ?_⟩
      · have := World.block_lt_of_cell? _ _ h0'
        rwa [add_plain, add_plain] at this
      · simp only [List.length_map, List.length_range] at hi2
        have h2 := (hf2 i (by omega)).1 j hj
        rw [add_plain, add_plain] at h2
        simpa using h2
    · intro q hq
      obtain ⟨i, hi2, rfl⟩ := List.mem_map.1 hq
      have := List.mem_range.1 hi2
      exact (hf2 i (by omega)).2
end Go.Proofs.Ytpnjjeplgkaaoaa
