/-
  How arguments of layer 18 are opened: a state (viaductref18), calls. No condition.
-/
import Derived.Test.YtogijfebfffobaaSofB
import Derived.Test.YtogijfebfffobaaPruOpen
import Derived.Test.YtogijfebfffobaaAdmOpen
namespace Go.Proofs.Ytogijfebfffobaa
open Go.RowKit Go.ChangeShapes Go.WideShapes Go.ChangeAt Go.Deep
set_option maxRecDepth 100000
set_option linter.unusedVariables false

/-- A call of the laws': Put, or Drop; then what is asked. -/
structure Ac18 where
  dr : Bool
  s : Ss
  now : Int
def ac18 (x : Ac18) : List Value := .bool x.dr :: (ssc x.s ++ [.int .i64 x.now])
theorem ac18_length (x : Ac18) : (ac18 x).length = 19 := rfl
theorem ac18_one (x : Ac18) : ∀ u ∈ ac18 x, u.oneCell' = true := by
  intro u hu
  unfold ac18 at hu
  rw [List.mem_cons, List.mem_append, List.mem_singleton] at hu
  rcases hu with rfl | hu | rfl
  · rfl
  · exact ssc_one _ u hu
  · rfl
/-- A state that lies in memory, with its route. -/
def Lies18 (W : World) (s : Ss) : Prop := Row ei W W.heap.size s.a s.n s.p.rt ∧ s.n ≤ maxLen ∧ s.n ≤ s.c
theorem Lies18.below {W W' : World} {s : Ss} (h : Lies18 W s) (hb : Below W.heap.size W W') : Lies18 W' s := ⟨(h.1.below hb).more hb.size, h.2⟩
section
variable {H : Type} {enc : TypeId × Value → H} {W : World} {base base2 : Nat} {spare : Nat → Bool} {held : Bool}
theorem cap_of18 {S E : TypeId} (hu : Try.prog.underlying S = some (.slice E)) {a : Option Addr} {n c : Nat} {d : DataW H} {p : List MemPlace} (h : DataW.Trod enc Try.prog W base spare held S (.slice a n c) d p) : n ≤ c := by
  obtain ⟨fuel, hf⟩ := h
  rcases open_slice hu hf with ⟨hcs, _⟩ | ⟨x, len, cap, m, q, D, Pl, hcs, _, hl, hm, hmm, _, hi⟩
  · simp [Value.cells] at hcs
    obtain ⟨rfl, rfl, rfl⟩ := hcs
    exact Nat.le_refl _
  · simp [Value.cells] at hcs
    obtain ⟨rfl, rfl, rfl⟩ := hcs
    exact hl
theorem cellsSs18 : Try.prog.cellsOf 37 = 17 := by kernel_rfl
theorem cellsAc18 : Try.prog.cellsOf 39 = 19 := by kernel_rfl
theorem cellsB18 : Try.prog.cellsOf 4 = 1 := by kernel_rfl
theorem list_17 (cs : List Value) (h : cs.length = 17) : ∃ c0 c1 c2 c3 c4 c5 c6 c7 c8 c9 c10 c11 c12 c13 c14 c15 c16, cs = [c0, c1, c2, c3, c4, c5, c6, c7, c8, c9, c10, c11, c12, c13, c14, c15, c16] := by
  match cs, h with
  | [c0, c1, c2, c3, c4, c5, c6, c7, c8, c9, c10, c11, c12, c13, c14, c15, c16], _ => exact ⟨c0, c1, c2, c3, c4, c5, c6, c7, c8, c9, c10, c11, c12, c13, c14, c15, c16, rfl⟩
theorem list_19 (cs : List Value) (h : cs.length = 19) : ∃ e0 e1 e2 e3 e4 e5 e6 e7 e8 e9 e10 e11 e12 e13 e14 e15 e16 e17 e18, cs = [e0, e1, e2, e3, e4, e5, e6, e7, e8, e9, e10, e11, e12, e13, e14, e15, e16, e17, e18] := by
  match cs, h with
  | [e0, e1, e2, e3, e4, e5, e6, e7, e8, e9, e10, e11, e12, e13, e14, e15, e16, e17, e18], _ => exact ⟨e0, e1, e2, e3, e4, e5, e6, e7, e8, e9, e10, e11, e12, e13, e14, e15, e16, e17, e18, rfl⟩
theorem ss_cells18 {fuel : Nat} {y : Option (DataW H × List MemPlace)} {cs : List Value} (hy : ∃ z, y = some z) (hl : cs.length = 17) (h : DataW.trod enc Try.prog W base spare held fuel 37 cs = y) : ∃ x : Ss, Lies18 W x ∧ cs = ssc x := by
  obtain ⟨z, rfl⟩ := hy
  obtain ⟨xs, m, _, _, _, hxl, hg⟩ := DataW.trod_struct Try.underlying37 h
  obtain ⟨c0, c1, c2, c3, c4, c5, c6, c7, c8, c9, c10, c11, c12, c13, c14, c15, c16, rfl⟩ := list_17 cs hl
  have g0 : DataW.trod enc Try.prog W base spare held m 30 (([c0, c1, c2, c3, c4, c5, c6, c7, c8, c9, c10, c11, c12, c13, c14, c15, c16].drop 0).take (Try.prog.cellsOf 30)) = xs[0]? := hg 0 _ rfl
  have g1 : DataW.trod enc Try.prog W base spare held m 34 (([c0, c1, c2, c3, c4, c5, c6, c7, c8, c9, c10, c11, c12, c13, c14, c15, c16].drop 4).take (Try.prog.cellsOf 34)) = xs[1]? := hg 1 _ rfl
  have g2 : DataW.trod enc Try.prog W base spare held m 35 (([c0, c1, c2, c3, c4, c5, c6, c7, c8, c9, c10, c11, c12, c13, c14, c15, c16].drop 10).take (Try.prog.cellsOf 35)) = xs[2]? := hg 2 _ rfl
  have g3 : DataW.trod enc Try.prog W base spare held m 3 (([c0, c1, c2, c3, c4, c5, c6, c7, c8, c9, c10, c11, c12, c13, c14, c15, c16].drop 11).take (Try.prog.cellsOf 3)) = xs[3]? := hg 3 _ rfl
  have g4 : DataW.trod enc Try.prog W base spare held m 3 (([c0, c1, c2, c3, c4, c5, c6, c7, c8, c9, c10, c11, c12, c13, c14, c15, c16].drop 12).take (Try.prog.cellsOf 3)) = xs[4]? := hg 4 _ rfl
  have g5 : DataW.trod enc Try.prog W base spare held m 3 (([c0, c1, c2, c3, c4, c5, c6, c7, c8, c9, c10, c11, c12, c13, c14, c15, c16].drop 13).take (Try.prog.cellsOf 3)) = xs[5]? := hg 5 _ rfl
  have g6 : DataW.trod enc Try.prog W base spare held m 3 (([c0, c1, c2, c3, c4, c5, c6, c7, c8, c9, c10, c11, c12, c13, c14, c15, c16].drop 14).take (Try.prog.cellsOf 3)) = xs[6]? := hg 6 _ rfl
  have g7 : DataW.trod enc Try.prog W base spare held m 3 (([c0, c1, c2, c3, c4, c5, c6, c7, c8, c9, c10, c11, c12, c13, c14, c15, c16].drop 15).take (Try.prog.cellsOf 3)) = xs[7]? := hg 7 _ rfl
  have g8 : DataW.trod enc Try.prog W base spare held m 3 (([c0, c1, c2, c3, c4, c5, c6, c7, c8, c9, c10, c11, c12, c13, c14, c15, c16].drop 16).take (Try.prog.cellsOf 3)) = xs[8]? := hg 8 _ rfl
  rw [cellsKey14] at g0
  rw [cellsWant] at g1
  rw [cellsSI16] at g2
  rw [cellsI16] at g3
  rw [cellsI16] at g4
  rw [cellsI16] at g5
  rw [cellsI16] at g6
  rw [cellsI16] at g7
  rw [cellsI16] at g8
  obtain ⟨k, hk, e0⟩ := key_cells ⟨_, List.getElem?_eq_getElem (by rw [hxl]; decide)⟩ rfl g0
  obtain ⟨v, hv, e1⟩ := want_cells14 ⟨_, List.getElem?_eq_getElem (by rw [hxl]; decide)⟩ rfl g1
  obtain ⟨a, n, c, rfl, d, p, t⟩ := slice_open16 Try.underlying35 ⟨_, List.getElem?_eq_getElem (by rw [hxl]; decide)⟩ g2
  obtain ⟨n0, rfl⟩ := int_open16 ⟨_, List.getElem?_eq_getElem (by rw [hxl]; decide)⟩ g3
  obtain ⟨n1, rfl⟩ := int_open16 ⟨_, List.getElem?_eq_getElem (by rw [hxl]; decide)⟩ g4
  obtain ⟨n2, rfl⟩ := int_open16 ⟨_, List.getElem?_eq_getElem (by rw [hxl]; decide)⟩ g5
  obtain ⟨n3, rfl⟩ := int_open16 ⟨_, List.getElem?_eq_getElem (by rw [hxl]; decide)⟩ g6
  obtain ⟨n4, rfl⟩ := int_open16 ⟨_, List.getElem?_eq_getElem (by rw [hxl]; decide)⟩ g7
  obtain ⟨n5, rfl⟩ := int_open16 ⟨_, List.getElem?_eq_getElem (by rw [hxl]; decide)⟩ g8
  obtain ⟨hm, rt, hr, _⟩ := open_rows16 ei_length (by decide) Try.underlying35 cellsI16 0 int_cell16 t
  have hcap := cap_of18 Try.underlying35 t
  simp [kyc] at e0
  simp [wnc] at e1
  obtain ⟨rfl, rfl, rfl, rfl⟩ := e0
  obtain ⟨rfl, rfl, rfl, rfl, rfl, rfl⟩ := e1
  exact ⟨⟨⟨k, v, rt, n0, n1, n2, n3, n4, n5⟩, a, n, c⟩, ⟨hr, hm, hcap⟩, rfl⟩
theorem open_ss18 {r : Reach} {v : Value} {d : DataW H} {p : List MemPlace} (hv : Value.okWide Try.prog W r base2 37 v) (h : DataW.Trod enc Try.prog W base spare held 37 v d p) : ∃ (x : Ss) (_ : Lies18 W x), v = .agg (ssc x).toArray := by
  obtain ⟨cs, rfl, hsz⟩ := okWide_struct Try.underlying37 hv
  obtain ⟨fuel, hf⟩ := h
  rw [cellsSs18] at hsz
  obtain ⟨x, hx, he⟩ := ss_cells18 ⟨_, rfl⟩ (by simpa [Value.cells] using hsz) hf
  refine ⟨x, hx, ?_⟩
  have he' : cs.toList = ssc x := by simpa [Value.cells] using he
  rw [← he']
theorem ac_cells18 (fuel : Nat) (y : DataW H × List MemPlace) (cs : List Value) (hl : cs.length = 19) (h : DataW.trod enc Try.prog W base spare held fuel 39 cs = some y) : ∃ x : Ac18, cs = ac18 x ∧ Lies18 W x.s := by
  obtain ⟨xs, m, _, _, _, hxl, hg⟩ := DataW.trod_struct Try.underlying39 h
  obtain ⟨e0, e1, e2, e3, e4, e5, e6, e7, e8, e9, e10, e11, e12, e13, e14, e15, e16, e17, e18, rfl⟩ := list_19 cs hl
  have g0 : DataW.trod enc Try.prog W base spare held m 4 (([e0, e1, e2, e3, e4, e5, e6, e7, e8, e9, e10, e11, e12, e13, e14, e15, e16, e17, e18].drop 0).take (Try.prog.cellsOf 4)) = xs[0]? := hg 0 _ rfl
  rw [cellsB18] at g0
  have g1 : DataW.trod enc Try.prog W base spare held m 37 (([e0, e1, e2, e3, e4, e5, e6, e7, e8, e9, e10, e11, e12, e13, e14, e15, e16, e17, e18].drop 1).take (Try.prog.cellsOf 37)) = xs[1]? := hg 1 _ rfl
  rw [cellsSs18] at g1
  have g2 : DataW.trod enc Try.prog W base spare held m 3 (([e0, e1, e2, e3, e4, e5, e6, e7, e8, e9, e10, e11, e12, e13, e14, e15, e16, e17, e18].drop 18).take (Try.prog.cellsOf 3)) = xs[2]? := hg 2 _ rfl
  rw [cellsI16] at g2
  rw [List.getElem?_eq_getElem (by rw [hxl]; decide)] at g0
  obtain ⟨t0, h0, _⟩ := DataW.trod_bool Try.underlying4 g0
  obtain ⟨x, hx, e1⟩ := ss_cells18 ⟨_, List.getElem?_eq_getElem (by rw [hxl]; decide)⟩ rfl g1
  obtain ⟨n2, rfl⟩ := int_open16 ⟨_, List.getElem?_eq_getElem (by rw [hxl]; decide)⟩ g2
  simp at h0
  subst h0
  refine ⟨⟨t0, x, n2⟩, ?_, hx⟩
  unfold ac18
  rw [← e1]
  rfl
theorem open_acts18 {a : Option Addr} {n c : Nat} {d : DataW H} {p : List MemPlace} (h : DataW.Trod enc Try.prog W base spare held 22 (.slice a n c) d p) : n ≤ maxLen ∧ ∃ es, Row ac18 W W.heap.size a n es ∧ ∀ x ∈ es, Lies18 W x.s :=
  open_rows16 ac18_length (by decide) Try.underlying22 cellsAc18 ⟨false, ⟨⟨⟨0, 0, 0, 0⟩, ⟨0, 0, 0, 0, 0, 0⟩, [], 0, 0, 0, 0, 0, 0⟩, none, 0, 0⟩, 0⟩ ac_cells18 h
end
end Go.Proofs.Ytogijfebfffobaa
