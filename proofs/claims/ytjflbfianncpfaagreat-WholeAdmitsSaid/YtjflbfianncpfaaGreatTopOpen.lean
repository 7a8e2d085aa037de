/-
  How the argument of WholeAdmits is opened: a case. No condition.
-/
import Derived.Test.YtjflbfianncpfaaGreatAdmtW
import Derived.Test.YtjflbfianncpfaaGreatAdmOpen
import Derived.Test.YtjflbfianncpfaaGreatTedOpen
namespace Go.Proofs.YtjflbfianncpfaaGreat
open Go.RowKit Go.ChangeShapes Go.WideShapes Go.ChangeAt Go.Deep
set_option maxRecDepth 100000
set_option linter.unusedVariables false

section
variable {H : Type} {enc : TypeId × Value → H} {W : World} {base base2 : Nat} {spare : Nat → Bool} {held : Bool}
theorem int_open17t {fuel : Nat} {y : Option (DataW H × List MemPlace)} {v : Value} (hy : ∃ z, y = some z) (h : DataW.trod enc Tryz.prog W base spare held fuel 3 [v] = y) : ∃ (n : Int) (_ : I15 n), v = .int .i64 n := by
  obtain ⟨z, rfl⟩ := hy
  obtain ⟨n0, hn0, _, k0⟩ := DataW.trod_int Tryz.underlying3 h
  simp at hn0
  have j0 := wf_i64 k0
  exact ⟨n0, by unfold I15; omega, hn0⟩
theorem slice_open17t {S E : TypeId} (hu : Tryz.prog.underlying S = some (.slice E)) {fuel : Nat} {y : Option (DataW H × List MemPlace)} {v : Value} (hy : ∃ z, y = some z) (h : DataW.trod enc Tryz.prog W base spare held fuel S [v] = y) : ∃ (a : Option Addr) (n c : Nat), v = .slice a n c ∧ ∃ d p, DataW.Trod enc Tryz.prog W base spare held S (.slice a n c) d p := by
  obtain ⟨⟨d, p⟩, rfl⟩ := hy
  have hbs : ∃ (q : Option Addr) (n c : Nat), v = .slice q n c := by
    rcases open_slice hu h with ⟨hcs2, _⟩ | ⟨x, len, cap, m2, k, D, Pl, hcs2, _⟩
    · simp at hcs2; exact ⟨_, _, _, hcs2⟩
    · simp at hcs2; exact ⟨_, _, _, hcs2⟩
  obtain ⟨q, n, c, rfl⟩ := hbs
  exact ⟨q, n, c, rfl, d, p, fuel, h⟩
theorem cellsCaseT : Tryz.prog.cellsOf 33 = 17 := by kernel_rfl
theorem cellsIT : Tryz.prog.cellsOf 3 = 1 := by kernel_rfl
theorem cellsSLT : Tryz.prog.cellsOf 22 = 1 := by kernel_rfl
theorem cellsSAT : Tryz.prog.cellsOf 23 = 1 := by kernel_rfl
theorem list_caseT (cs : List Value) (h : cs.length = 17) : ∃ a b c d e l, cs = a :: b :: c :: d :: e :: l ∧ l.length = 12 := by
  match cs, h with
  | a :: b :: c :: d :: e :: l, h => exact ⟨a, b, c, d, e, l, rfl, by simpa using h⟩
/-- A case. -/
theorem open_caseT {r : Reach} {v : Value} {d : DataW H} {p : List MemPlace}
    (hv : Value.okWide Tryz.prog W r base2 33 v) (h : DataW.Trod enc Tryz.prog W base spare held 33 v d p) :
    ∃ (n : Int) (b : Option Addr) (m c : Nat) (pa : Option Addr) (ma ca : Nat) (f t : Int) (x : Ac14) (_ : (I15 n ∧ I15 f ∧ I15 t) ∧ Ac14Ok x ∧ (∃ L, Row lkc W W.heap.size b m L ∧ ∀ z ∈ L, LkB z) ∧ ∃ es, Row a14 W W.heap.size pa ma es ∧ ∀ y ∈ es, Ac14Ok y), v = .agg (cst17 n b m c pa ma ca f t x).toArray := by
  obtain ⟨cs, rfl, hsz⟩ := okWide_struct Tryz.underlying33 hv
  obtain ⟨fuel, hf⟩ := h
  rw [cellsCaseT] at hsz
  obtain ⟨xs, m, _, _, _, hxl, hg⟩ := DataW.trod_struct Tryz.underlying33 hf
  obtain ⟨c0, c1, c2, c3, c4, l, hab, hl⟩ := list_caseT cs.toList (by simpa using hsz)
  have hcs : (Value.agg cs).cells.toList = c0 :: c1 :: c2 :: c3 :: c4 :: l := by simpa [Value.cells] using hab
  rw [hcs] at hg
  have g0 : DataW.trod enc Tryz.prog W base spare held m 3 (((c0 :: c1 :: c2 :: c3 :: c4 :: l).drop 0).take (Tryz.prog.cellsOf 3)) = xs[0]? := hg 0 _ rfl
  have g1 : DataW.trod enc Tryz.prog W base spare held m 22 (((c0 :: c1 :: c2 :: c3 :: c4 :: l).drop 1).take (Tryz.prog.cellsOf 22)) = xs[1]? := hg 1 _ rfl
  have g2 : DataW.trod enc Tryz.prog W base spare held m 23 (((c0 :: c1 :: c2 :: c3 :: c4 :: l).drop 2).take (Tryz.prog.cellsOf 23)) = xs[2]? := hg 2 _ rfl
  have g3 : DataW.trod enc Tryz.prog W base spare held m 3 (((c0 :: c1 :: c2 :: c3 :: c4 :: l).drop 3).take (Tryz.prog.cellsOf 3)) = xs[3]? := hg 3 _ rfl
  have g4 : DataW.trod enc Tryz.prog W base spare held m 3 (((c0 :: c1 :: c2 :: c3 :: c4 :: l).drop 4).take (Tryz.prog.cellsOf 3)) = xs[4]? := hg 4 _ rfl
  have g5 : DataW.trod enc Tryz.prog W base spare held m 31 (((c0 :: c1 :: c2 :: c3 :: c4 :: l).drop 5).take (Tryz.prog.cellsOf 31)) = xs[5]? := hg 5 _ rfl
  rw [cellsIT] at g0 g3 g4
  rw [cellsSLT] at g1
  rw [cellsSAT] at g2
  rw [cellsAct14] at g5
  simp only [List.drop_zero, List.drop_succ_cons, List.take_succ_cons, List.take_zero] at g0 g1 g2 g3 g4 g5
  rw [List.take_of_length_le (by omega)] at g5
  obtain ⟨n, hn, rfl⟩ := int_open17t ⟨_, List.getElem?_eq_getElem (by rw [hxl]; decide)⟩ g0
  obtain ⟨b, m1, k1, rfl, d1, p1, t1⟩ := slice_open17t Tryz.underlying22 ⟨_, List.getElem?_eq_getElem (by rw [hxl]; decide)⟩ g1
  obtain ⟨pa, ma, ca, rfl, d2, p2, t2⟩ := slice_open17t Tryz.underlying23 ⟨_, List.getElem?_eq_getElem (by rw [hxl]; decide)⟩ g2
  obtain ⟨f, hf2, rfl⟩ := int_open17t ⟨_, List.getElem?_eq_getElem (by rw [hxl]; decide)⟩ g3
  obtain ⟨t, ht, rfl⟩ := int_open17t ⟨_, List.getElem?_eq_getElem (by rw [hxl]; decide)⟩ g4
  have l5 : xs[5]? = some (xs[5]'(by rw [hxl]; decide)) := List.getElem?_eq_getElem _
  rw [l5] at g5
  obtain ⟨x, hx1, hx2⟩ := act14_cells hl g5
  subst hx1
  have o1 := open_links15 t1
  have o2 := open_acts14 t2
  refine ⟨n, b, m1, k1, pa, ma, ca, f, t, x, ⟨⟨hn, hf2, ht⟩, hx2, o1.2, o2.2⟩, ?_⟩
  cases cs
  simp at hab
  subst hab
  rfl
end
end Go.Proofs.YtjflbfianncpfaaGreat
