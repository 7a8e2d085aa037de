/-
  How an argument that is a slice of calls of a pool is opened. No condition.
-/
import Derived.Test.YtclhpmmdcapboaaOpen
import Derived.Test.YtclhpmmdcapboaaRow
import Derived.Deep.Fields
namespace Go.Proofs.Ytclhpmmdcapboaa
open Go.RowKit Go.ChangeShapes Go.WideShapes Go.ChangeAt Go.Deep

/-- The cells of a call. -/
def ea (q : Bool × Bool × Int) : List Value := [.bool q.1, .bool q.2.1, .int .i64 q.2.2]
theorem ea_length (q : Bool × Bool × Int) : (ea q).length = 3 := rfl

theorem cellsAct : Try.prog.cellsOf 32 = 3 := by kernel_rfl
theorem cellsInt : Try.prog.cellsOf 3 = 1 := by kernel_rfl
theorem cellsBool : Try.prog.cellsOf 4 = 1 := by kernel_rfl

theorem list_three (cs : List Value) (h : cs.length = 3) : ∃ u v t, cs = [u, v, t] := by
  match cs, h with
  | [u, v, t], _ => exact ⟨u, v, t, rfl⟩

theorem act_cells {H : Type} {enc : TypeId × Value → H} {W : World} {base : Nat} {spare : Nat → Bool} {held : Bool} {fuel : Nat} {y : DataW H × List MemPlace} {cs : List Value} (hl : cs.length = 3)
    (h : DataW.trod enc Try.prog W base spare held fuel 32 cs = some y) : ∃ q : Bool × Bool × Int, cs = ea q ∧ (Lit.int .i64 q.2.2).wf = true := by
  obtain ⟨xs, m, _, _, _, hxl, hf⟩ := DataW.trod_struct Try.underlying32 h
  obtain ⟨u, v, t, rfl⟩ := list_three cs hl
  have g0 : DataW.trod enc Try.prog W base spare held m 4 (([u, v, t].drop 0).take (Try.prog.cellsOf 4)) = xs[0]? := hf 0 _ rfl
  have g1 : DataW.trod enc Try.prog W base spare held m 4 (([u, v, t].drop 1).take (Try.prog.cellsOf 4)) = xs[1]? := hf 1 _ rfl
  have g2 : DataW.trod enc Try.prog W base spare held m 3 (([u, v, t].drop 2).take (Try.prog.cellsOf 3)) = xs[2]? := hf 2 _ rfl
  have l0 : xs[0]? = some (xs[0]'(by rw [hxl]; decide)) := List.getElem?_eq_getElem _
  have l1 : xs[1]? = some (xs[1]'(by rw [hxl]; decide)) := List.getElem?_eq_getElem _
  have l2 : xs[2]? = some (xs[2]'(by rw [hxl]; decide)) := List.getElem?_eq_getElem _
  rw [l0, cellsBool] at g0
  rw [l1, cellsBool] at g1
  rw [l2, cellsInt] at g2
  obtain ⟨n0, hn0, _⟩ := DataW.trod_bool Try.underlying4 g0
  obtain ⟨n1, hn1, _⟩ := DataW.trod_bool Try.underlying4 g1
  obtain ⟨n2, hn2, _, hw⟩ := DataW.trod_int Try.underlying3 g2
  simp at hn0 hn1 hn2
  subst hn0
  subst hn1
  subst hn2
  exact ⟨(n0, n1, n2), rfl, hw⟩

/-- The slice reads as the calls 'es', whose labels are numbers of 64 bits. -/
def Acts (w : World) (B : Nat) (a : Option Addr) (n : Nat) (es : List (Bool × Bool × Int)) : Prop := Row ea w B a n es ∧ ∀ q ∈ es, (Lit.int .i64 q.2.2).wf = true

theorem Acts.below {w w' : World} {B n : Nat} {a : Option Addr} {es : List (Bool × Bool × Int)} (h : Acts w B a n es) (hb : Below B w w') : Acts w' B a n es := ⟨h.1.below hb, h.2⟩

theorem Acts.at {w : World} {B n : Nat} {a : Option Addr} {es : List (Bool × Bool × Int)} (h : Acts w B a n es) {i : Nat} (hi : i < n) : ∃ (b o : Nat) (bk fk : Bool) (l : Int), a = some ⟨b, o, none⟩ ∧ w.cell? ⟨b, o + i * 3, none⟩ = some (.bool bk) ∧ w.cell? ⟨b, o + i * 3 + 1, none⟩ = some (.bool fk) ∧ w.cell? ⟨b, o + i * 3 + 2, none⟩ = some (.int .i64 l) ∧ (Lit.int .i64 l).wf = true ∧ es[i]? = some (bk, fk, l) := by
  obtain ⟨b, o, e, _, hc⟩ := h.1.cells ea_length (by omega)
  have hi' : i < es.length := by rw [h.1.1]; exact hi
  exact ⟨b, o, es[i].1, es[i].2.1, es[i].2.2, e, hc i hi' 0 (by omega), hc i hi' 1 (by omega), hc i hi' 2 (by omega), h.2 _ (List.getElem_mem hi'), by simp [hi']⟩

theorem open_acts {H : Type} {enc : TypeId × Value → H} {W : World} {base : Nat} {spare : Nat → Bool} {held : Bool} {a : Option Addr} {n c : Nat} {d : DataW H} {p : List MemPlace}
    (h : DataW.Trod enc Try.prog W base spare held 22 (.slice a n c) d p) : n ≤ maxLen ∧ ∃ es, Acts W W.heap.size a n es := by
  obtain ⟨fuel, hf⟩ := h
  rcases open_slice Try.underlying22 hf with ⟨hcs, _⟩ | ⟨x, len, cap, m, k, D, Pl, hcs, _, hl, hm, hmm, _, hi⟩
  · simp [Value.cells] at hcs
    obtain ⟨rfl, rfl, rfl⟩ := hcs
    exact ⟨Nat.zero_le _, [], Row.nil, by simp⟩
  · simp [Value.cells] at hcs
    obtain ⟨rfl, rfl, rfl⟩ := hcs
    have hnm : n ≤ m := by rw [hmm]; split <;> omega
    have hel : ∀ i, ∃ q : Bool × Bool × Int, i < m → (∀ j, j < 3 → W.cell? ((x.add (i * 3)).add j) = (ea q)[j]?) ∧ (Lit.int .i64 q.2.2).wf = true := by
      intro i
      by_cases him : i < m
      · obtain ⟨cs', hc, ht⟩ := hi i him
        rw [cellsAct] at hc
        obtain ⟨_, hcl, hat⟩ := World.cells?_some hc
        obtain ⟨q, rfl, hw⟩ := act_cells hcl ht
        exact ⟨q, fun _ => ⟨fun j hj => hat j hj, hw⟩⟩
      · exact ⟨(false, false, 0), fun h => absurd h him⟩
    obtain ⟨f, hf2⟩ := Classical.axiomOfChoice hel
    refine ⟨Nat.le_trans hl hm, (List.range n).map f, Row.mk ea_length (by simp) fun hn => ?_, ?_⟩
    · have h0 := (hf2 0 (by omega)).1 0 (by omega)
      obtain ⟨b, o, sp⟩ := x
      have h0' : W.cell? (((⟨b, o, sp⟩ : Addr).add (0 * 3)).add 0) = some (.bool (f 0).1) := h0
      have hspot : sp = none := by simpa [Addr.add] using World.cell?_spot h0'
      subst hspot
      refine ⟨b, o, rfl, ?_, fun i hi2 j hj => ?_⟩
      · have := World.block_lt_of_cell? _ _ h0'
        rwa [add_plain, add_plain] at this
      · simp only [List.length_map, List.length_range] at hi2
        have h2 := (hf2 i (by omega)).1 j hj
        rw [add_plain, add_plain] at h2
        simpa using h2
    · intro q hq
      obtain ⟨i, hi2, rfl⟩ := List.mem_map.1 hq
      have := List.mem_range.1 hi2
      exact (hf2 i (by omega)).2
end Go.Proofs.Ytclhpmmdcapboaa
