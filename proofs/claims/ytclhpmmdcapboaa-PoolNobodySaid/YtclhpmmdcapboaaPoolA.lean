/-
  Contracts of package pool: New, made, Take, Drop, Left. Conditions: the pool is one that New or Copy made; a label that comes back is a number of 64 bits.
-/
import Derived.Test.YtclhpmmdcapboaaPoolM
namespace Go.Proofs.Ytclhpmmdcapboaa
open Go.RowKit Go.Maps

theorem run_neq_map_nil {P : Program} (w : World) (t k e : TypeId) (p : Option Nat) (h : P.underlying t = some (.map k e)) : (binOp .neq t (.map p) (.map none)).run P w = .ok (.bool (!p.isNone)) w := by
  simp only [binOp]
  simp [show Op.equal t (.map p) (.map none) = Op.equalIn (9999 + 1) t (.map p) (.map none) from rfl, run_equalIn_map_nil_sl w 9999 t k e p h]

section
variable {w : World} {pb mb : Nat} {low next high : Int} {s : List Int}

def NewPost (w : World) (low high : Int) (e : Ending) (w' : World) : Prop :=
  ∃ pb mb, e = .returned (.pointer (some ⟨pb, 0, none⟩)) ∧ Pool w' pb mb low low high [] ∧ w.heap.size ≤ pb ∧ w.heap.size ≤ mb ∧ Below w.heap.size w w'

theorem new_yes (low high : Int) (w : World) (h1 : 16 ≤ low) (h2 : high ≤ 1048575) (h3 : low ≤ high) :
    Calls Try.prog 9 #[.int .i64 low, .int .i64 high] w (NewPost w low high) := by
  have e1 : decide (low < 16) = false := by simp; omega
  have e2 : decide (high > 1048575) = false := by simp; omega
  have e3 : decide (high < low) = false := by simp; omega
  have hmm := @run_makeMap Try.prog
  go_enter Try.func9, Try.ntmps9
  go_wp2
  go_ret
  refine ⟨w.heap.size + 1, w.heap.size, by simp, ⟨?_, (labels_new w).same ?_, ⟨h1, by omega, by omega, h2⟩, by simp⟩, by omega, by omega, bel_new (bel_new (Below.refl _ _) _) _⟩
  · have := heap_alloc_new (w.alloc (.map #[] 0)) (.cells #[.int .i64 low, .int .i64 high, .map (some w.heap.size)] 51)
    simpa using this
  · exact Below.heap_alloc _ _ _ (by simp)

theorem new_no (low high : Int) (w : World) (h : ¬ (16 ≤ low ∧ high ≤ 1048575 ∧ low ≤ high)) :
    Calls Try.prog 9 #[.int .i64 low, .int .i64 high] w fun e w' => e = .returned (.pointer none) ∧ w' = w := by
  by_cases h1 : low < 16
  · have e1 : decide (low < 16) = true := by simp; omega
    clear h
    go_enter Try.func9, Try.ntmps9
    go_wp2
    go_ret
    exact ⟨rfl, rfl⟩
  have e1 : decide (low < 16) = false := by simp; omega
  by_cases h2 : high > 1048575
  · have e2 : decide (high > 1048575) = true := by simp; omega
    clear h h1
    go_enter Try.func9, Try.ntmps9
    go_wp2
    go_ret
    exact ⟨rfl, rfl⟩
  have e2 : decide (high > 1048575) = false := by simp; omega
  have e3 : decide (high < low) = true := by simp; omega
  clear h h1 h2
  go_enter Try.func9, Try.ntmps9
  go_wp2
  go_ret
  exact ⟨rfl, rfl⟩

theorem made_calls (h : Pool w pb mb low next high s) :
    Calls Try.prog 21 #[.pointer (some ⟨pb, 0, none⟩)] w fun e w' => e = .returned (.bool true) ∧ w' = w := by
  have c2 := h.c2
  have hq := fun w => run_neq_map_nil (P := Try.prog) w 49 _ _ (some mb) Try.underlying49
  clear h
  go_enter Try.func21, Try.ntmps21
  go_wp2
  go_ret
  exact ⟨rfl, rfl⟩

theorem made_nil (w : World) :
    Calls Try.prog 21 #[.pointer none] w fun e w' => e = .returned (.bool false) ∧ w' = w := by
  go_enter Try.func21, Try.ntmps21
  go_wp2
  go_ret
  exact ⟨rfl, rfl⟩

theorem made_zero {w : World} {pb : Nat} (c2 : w.cell? ⟨pb, 2, none⟩ = some (.map none)) :
    Calls Try.prog 21 #[.pointer (some ⟨pb, 0, none⟩)] w fun e w' => e = .returned (.bool false) ∧ w' = w := by
  have hq := fun w => run_neq_map_nil (P := Try.prog) w 49 _ _ none Try.underlying49
  go_enter Try.func21, Try.ntmps21
  go_wp2
  go_ret
  exact ⟨rfl, rfl⟩

theorem left_calls_p (h : Pool w pb mb low next high s) :
    Calls Try.prog 18 #[.pointer (some ⟨pb, 0, none⟩)] w fun e w' => e = .returned (.int .i64 (high - next + 1)) ∧ ∃ m, w' = w.drewN m := by
  have c0 := h.c0
  have c1 := h.c1
  have hb := h.2.2.1
  obtain ⟨b1, b2, b3, b4⟩ := hb
  have H := Lib.hid h
  clear h
  go_enter Try.func18, Try.ntmps18
  go_wp2_with fail
  ((with_reducible refine (made_calls H.out).mono ?_))
  rintro e w' ⟨rfl, rfl⟩
  go_wp2
  go_quiet (fail)
  go_wp2
  go_ret
  exact ⟨by first | rfl | (congr 2; omega), _, rfl⟩

/-- What a Take answers, and leaves. -/
def TakeRel (next high : Int) (s : List Int) (l er next' : Int) (s' : List Int) : Prop :=
  (next ≤ high ∧ l = next ∧ er = 0 ∧ next' = next + 1 ∧ s' = s ++ [next]) ∨ (high < next ∧ l = 0 ∧ er = 7 ∧ next' = next ∧ s' = s)
def TakePost (w : World) (pb mb : Nat) (low next high : Int) (s : List Int) (e : Ending) (w' : World) : Prop :=
  ∃ l er next' s', e = .returned (.tuple #[.int .i64 l, .int .i64 er]) ∧ Pool w' pb mb low next' high s' ∧ TakeRel next high s l er next' s' ∧ Turn [pb, mb] w w'

theorem take_full (h : Pool w pb mb low next high s) (hf : high < next) : Calls Try.prog 13 #[.pointer (some ⟨pb, 0, none⟩)] w (TakePost w pb mb low next high s) := by
  have c0 := h.c0
  have c1 := h.c1
  have e1 : decide (next > high) = true := by simp; omega
  have H := Lib.hid h
  clear h
  go_enter Try.func13, Try.ntmps13
  go_wp2_with fail
  ((with_reducible refine (made_calls H.out).mono ?_))
  rintro e w' ⟨rfl, rfl⟩
  go_wp2
  go_quiet (fail)
  go_wp2
  refine bodyPost_ret (v := .tuple #[.int .i64 0, .int .i64 7]) (by simp [results, Try.results13, go_sem]) rfl ?_
  exact ⟨0, 7, next, s, rfl, H.out, .inr ⟨hf, rfl, rfl, rfl, rfl⟩, Turn.drewN (Turn.refl _ _) _⟩

theorem Pool.setNext (h : Pool w pb mb low next high s) (x : Int) : (w.setCell ⟨pb, 0, none⟩ (.int .i64 x)).heap[pb]? = some (.cells #[.int .i64 x, .int .i64 high, .map (some mb)] 51 (0, 0)) := by
  have h1 := h.1
  simp [World.setCell, Array.getElem?_modify, h1]

set_option maxHeartbeats 800000 in
theorem take_some (h : Pool w pb mb low next high s) (hf : next ≤ high) : Calls Try.prog 13 #[.pointer (some ⟨pb, 0, none⟩)] w (TakePost w pb mb low next high s) := by
  have c0 := h.c0
  have c1 := h.c1
  have c2 := h.c2
  have f0 := h.free 0
  have hsm := h.small
  obtain ⟨b1, b2, b3, b4⟩ := h.2.2.1
  have e1 : decide (next > high) = false := by simp; omega
  have hne := h.ne
  obtain ⟨D, ho, hh⟩ := h.2.1.own
  have HO := Lib.hid (ho.setCell (a := ⟨pb, 0, none⟩) (Ne.symm hne) (.int .i64 (next + 1)))
  have HP := Lib.hid (h.setNext (next + 1))
  have HH := Lib.hid hh
  have HM := Lib.hid ho.isMap
  have hkey : keyOf Try.prog 3 (.int .i64 next) = some (.int .i64 next) := keyOf_int_mk Try.underlying3 (WalkArith.wf_i64 (by omega))
  have HK := Lib.hid hkey
  have H := Lib.hid h
  clear h ho hh hkey
  go_enter Try.func13, Try.ntmps13
  go_wp2_with fail
  ((with_reducible refine (made_calls H.out).mono ?_))
  rintro e w' ⟨rfl, rfl⟩
  go_wp2
  go_quiet (fail)
  go_wp2_with (at_mapUpdate; refine wpList_mapUpdate_in _ rfl _ _ _ 49 rfl 3 56 key_law Try.underlying49 _ mb s.length D rfl HO.out (by unfold maxLen; omega) _ _ _ rfl rfl HK.out _ [] unitElem_mk ?_; intro w1 hown1 hturn1)
  refine bodyPost_ret (v := .tuple #[.int .i64 next, .int .i64 0]) (by simp [results, Try.results13, go_sem]) rfl ?_
  have g1 := hturn1.grown
  have hpl := H.out.lt
  refine ⟨next, 0, next + 1, s ++ [next], rfl, ⟨(g1.block pb (by simpa [World.setCell] using hpl.1) (by simpa using hne)).trans HP.out, Labels.of (H.out.2.1.1.snoc (fun y hy => (H.out.2.2.2 y hy).2)) hown1 (fun x => has_put_int HM.out HH.out next _ x), ⟨b1, by omega, by omega, b4⟩, ?_⟩, .inl ⟨hf, rfl, rfl, rfl, rfl⟩, ?_⟩
  · intro x hx
    rcases List.mem_append.1 hx with hx | hx
    · have := H.out.2.2.2 x hx; omega
    · simp at hx; omega
  · exact Turn.trans (Turn.trans (Turn.drewN (Turn.refl _ _) _) (Turn.of_grown (r := pb) (upd_set_p _ _ _ _) (by simp))) (Turn.of_grown (r := mb) g1 (by simp))

theorem take_calls (h : Pool w pb mb low next high s) : Calls Try.prog 13 #[.pointer (some ⟨pb, 0, none⟩)] w (TakePost w pb mb low next high s) := by
  by_cases hf : next ≤ high
  · exact take_some h hf
  · exact take_full h (by omega)

/-- What a Drop answers, and leaves. -/
def DropRel (s : List Int) (l er : Int) (s' : List Int) : Prop := (l ∈ s ∧ er = 0 ∧ s' = s.filter (fun y => !(y == l))) ∨ (l ∉ s ∧ er = 8 ∧ s' = s)
def DropPost (w : World) (pb mb : Nat) (low next high : Int) (s : List Int) (l : Int) (e : Ending) (w' : World) : Prop :=
  ∃ er s', e = .returned (.int .i64 er) ∧ Pool w' pb mb low next high s' ∧ DropRel s l er s' ∧ Turn [pb, mb] w w'

set_option maxHeartbeats 800000 in
theorem drop_none (h : Pool w pb mb low next high s) (l : Int) (hw : (Lit.int .i64 l).wf = true) (hf : l ∉ s) : Calls Try.prog 12 #[.pointer (some ⟨pb, 0, none⟩), .int .i64 l] w (DropPost w pb mb low next high s l) := by
  have c2 := h.c2
  obtain ⟨D, ho, hh⟩ := h.2.1.own
  have hno : Maps.has D (.int .i64 l) = false := by rw [hh l]; simpa using hf
  have HO := Lib.hid ho
  have HK := Lib.hid (show keyOf Try.prog 3 (.int .i64 l) = some (.int .i64 l) from keyOf_int_mk Try.underlying3 hw)
  have H := Lib.hid h
  clear h ho hh
  go_enter Try.func12, Try.ntmps12
  go_wp2_with fail
  ((with_reducible refine (made_calls H.out).mono ?_))
  rintro e w' ⟨rfl, rfl⟩
  go_wp2_with (at_lookup; refine wpList_lookup_own_unit _ rfl _ _ 49 rfl 3 56 key_law Try.underlying49 (zeroUnit _) mb s.length D rfl HO.out _ _ rfl HK.out ?_)
  go_ret
  exact ⟨8, s, rfl, H.out.below (bel_new (Below.refl _ _) _), .inr ⟨hf, rfl, rfl⟩, Turn.of_below (bel_new (Below.refl _ _) _)⟩

set_option maxHeartbeats 800000 in
theorem drop_some (h : Pool w pb mb low next high s) (l : Int) (hw : (Lit.int .i64 l).wf = true) (hf : l ∈ s) : Calls Try.prog 12 #[.pointer (some ⟨pb, 0, none⟩), .int .i64 l] w (DropPost w pb mb low next high s l) := by
  have c2 := h.c2
  have hne := h.ne
  obtain ⟨D, ho, hh⟩ := h.2.1.own
  have hno : Maps.has D (.int .i64 l) = true := by rw [hh l]; simpa using hf
  have HO := Lib.hid ho
  have HH := Lib.hid hh
  have HK := Lib.hid (show keyOf Try.prog 3 (.int .i64 l) = some (.int .i64 l) from keyOf_int_mk Try.underlying3 hw)
  have H := Lib.hid h
  have K0 := Lib.hid (bel_new (Below.refl w.heap.size w) (.cells #[] 56))
  have HP := Lib.hid (h.below K0.out)
  have c2' := (h.below K0.out).c2
  clear h ho hh
  go_enter Try.func12, Try.ntmps12
  go_wp2_with fail
  ((with_reducible refine (made_calls H.out).mono ?_))
  rintro e w' ⟨rfl, rfl⟩
  go_wp2_with (first | (at_lookup; refine wpList_lookup_own_unit _ rfl _ _ 49 rfl 3 56 key_law Try.underlying49 (zeroUnit _) mb s.length D rfl HO.out _ _ rfl HK.out ?_) | (at_delete; refine wpList_delete_own _ rfl _ _ 49 3 rfl 56 key_law Try.underlying49 _ mb s.length D rfl (HO.out.alloc _) _ _ rfl HK.out ?_; intro w1 hown1 hturn1))
  go_ret
  have g1 := hturn1.grown
  refine ⟨0, _, rfl, ⟨(g1.block pb (HP.out.lt.1) (by simpa using hne)).trans HP.out.1, Labels.of (H.out.2.1.1.filter _) hown1 (fun x => has_del_int HH.out l x), H.out.2.2.1, fun x hx => H.out.2.2.2 x ((List.mem_filter.1 hx).1)⟩, .inl ⟨hf, rfl, rfl⟩, Turn.trans (Turn.of_below K0.out) (Turn.of_grown (r := mb) g1 (by simp))⟩

theorem drop_calls (h : Pool w pb mb low next high s) (l : Int) (hw : (Lit.int .i64 l).wf = true) : Calls Try.prog 12 #[.pointer (some ⟨pb, 0, none⟩), .int .i64 l] w (DropPost w pb mb low next high s l) := by
  by_cases hf : l ∈ s
  · exact drop_some h l hw hf
  · exact drop_none h l hw hf
end
end Go.Proofs.Ytclhpmmdcapboaa
