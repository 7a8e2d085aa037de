/-
  Contracts of the document's answer for layer 5 (viaductref05): find, without, with, put, Bindable, May. Conditions: the rows that come in read as a list, of at most 2^40; with and put: which rises.
-/
import Derived.Test.YtkbbnfinmipenaaLfibB
import Derived.Test.YtkbbnfinmipenaaShimC
import Derived.Test.YtkbbnfinmipenaaBlk
import Derived.Test.YtkbbnfinmipenaaSeq
import Derived.Deep.DeepCutAuto
namespace Go.Proofs.Ytkbbnfinmipenaa
open Go.RowKit Go.Maps
set_option linter.unusedVariables false

/-- Rows of the document's that a call itself gathers. -/
def AccQ (w : World) (base : Nat) (A : Option Addr) (c : Nat) (l : List (Int × Int × Int)) : Prop := AccR ec 3 w base 77 A c l
theorem infoRowQ : (Try.prog.info? 77).map (fun i => (i.zero, i.size, i.bytes)) = some (some (.agg #[.int .i64 0, .int .i64 0, .int .i64 0]), 3, 24) := by kernel_rfl
theorem accq_push {w : World} {base c : Nat} {A : Option Addr} {l : List (Int × Int × Int)} (h : AccQ w base A c l) (x : Int × Int × Int) (hbase : base ≤ w.heap.size) (hlen : l.length ≤ 1099511627776) (ty : TypeId) :
    ∃ A' c' w', (Builtin.append_ #[26, 26] ty #[.slice A l.length c, .slice (some ⟨w.heap.size, 0, none⟩) 1 1]).run Try.prog (w.alloc (.cells (ec x).toArray 77)) = .ok (.slice A' (l.length + 1) c') w' ∧
      AccQ w' base A' c' (l ++ [x]) ∧ w.grownBy w' (blk A) :=
  accr_push ec_length ec_one (by omega) h x Try.underlying26 infoRowQ rfl hbase (by omega) (by omega)

/-- The row that is found. -/
def fndR (l : List (Int × Int × Int)) (k : Int) : Int × Int × Int := match fnd l k with
  | some p => (k, p)
  | none => (0, 0, 0)

theorem bind5_calls (x : Int) (w : World) : Calls Try.prog 35 #[.int .i64 x] w fun e w' => e = .returned (.bool (wn x 16 1048575)) ∧ w = w' := by
  by_cases h1 : 16 ≤ x
  · have e1 : wn x 16 1048575 = decide (x ≤ 1048575) := by simp [wn, h1]
    rw [e1]
    go_enter Try.func35, Try.ntmps35
    go_wp2
    go_ret
    exact ⟨rfl, rfl⟩
  · have e1 : wn x 16 1048575 = false := by simp [wn, h1]
    rw [e1]
    go_enter Try.func35, Try.ntmps35
    go_wp2
    go_ret
    exact ⟨rfl, rfl⟩

theorem may5_calls (a b : Int) (w : World) : Calls Try.prog 36 #[.int .i64 a, .int .i64 b] w fun e w' => e = .returned (.bool (okO a b)) ∧ w = w' := by
  by_cases h1 : 0 ≤ a
  · by_cases h2 : a < 16
    · have e1 : okO a b = (wn b 16 1048575 || (b == 3)) := by
        unfold okO
        rw [show wn a 0 15 = true by simp [wn, h1]; omega]; rfl
      rw [e1]
      go_enter Try.func36, Try.ntmps36
      go_wp2_with fail
      ((with_reducible refine (bind5_calls b w).mono ?_))
      rintro e w1 ⟨rfl, rfl⟩
      cases hb : wn b 16 1048575
      · go_wp2
        go_ret
        exact ⟨by rw [hb]; rfl, rfl⟩
      · go_wp2
        go_ret
        exact ⟨by rw [hb]; rfl, rfl⟩
    · have e1 : okO a b = false := by
        unfold okO
        rw [show wn a 0 15 = false by simp [wn]; omega]; rfl
      rw [e1]
      go_enter Try.func36, Try.ntmps36
      go_wp2
      go_ret
      exact ⟨rfl, rfl⟩
  · have e1 : okO a b = false := by
      unfold okO
      rw [show wn a 0 15 = false by simp [wn]; omega]; rfl
    rw [e1]
    go_enter Try.func36, Try.ntmps36
    go_wp2
    go_ret
    exact ⟨rfl, rfl⟩

theorem fnd_at {l : List (Int × Int × Int)} {j : Nat} (hj : j < l.length) {k : Int} (hno : ∀ r ∈ l.take j, r.1 ≠ k) (he : l[j].1 = k) : fnd l k = some l[j].2 := by
  have h : l.take j ++ l[j] :: l.drop (j + 1) = l := by rw [List.getElem_cons_drop, List.take_append_drop]
  have hc : (l.take j ++ l[j] :: l.drop (j + 1)).find? (fun r => r.1 == k) = some l[j] := by
    rw [List.find?_append, List.find?_eq_none.2 (fun r hr => by simpa using hno r hr), Option.none_or, List.find?_cons_of_pos (by simpa using he)]
  rw [h] at hc
  unfold fnd
  rw [hc]; rfl

def FindPost (w : World) (l : List (Int × Int × Int)) (k : Int) (e : Ending) (w' : World) : Prop :=
  e = .returned (.tuple #[.agg #[.int .i64 (fndR l k).1, .int .i64 (fndR l k).2.1, .int .i64 (fndR l k).2.2], .bool (fnd l k).isSome]) ∧ Below w.heap.size w w'

set_option maxRecDepth 100000 in
set_option maxHeartbeats 800000 in
theorem reffind_calls (a : Option Addr) (n c : Nat) (l : List (Int × Int × Int)) (k : Int) (w : World) (h : Row ec w w.heap.size a n l) (hn : n ≤ 1099511627776) :
    Calls Try.prog 39 #[.slice a n c, .int .i64 k] w (FindPost w l k) := by
  have K0 := Lib.hid (bel_new (Below.refl w.heap.size w) (.cells #[.int .i64 0, .int .i64 0, .int .i64 0] 77))
  have X0 := Lib.hid (Blk.new w 77 [.int .i64 0, .int .i64 0, .int .i64 0])
  have HL := Lib.hid h.1
  have H1 := Lib.hid ((h.below K0.out).more K0.out.size)
  clear h
  go_enter Try.func39, Try.ntmps39
  go_wp2_with fail
  generalize w.alloc (.cells #[.int .i64 0, .int .i64 0, .int .i64 0] 77) = w1 at *
  go_loopw [6] (fun t W => ∃ j : Nat, j ≤ n ∧ t = .int .i64 (j : Int) ∧ (∀ r ∈ l.take j, r.1 ≠ k) ∧ W = w1) (fun t _ => n - (intOf t).toNat)
  case atStart => exact ⟨0, Nat.zero_le _, rfl, by simp, rfl⟩
  case round =>
    obtain ⟨j, hj, rfl, hno, rfl⟩ := hrel
    have HN := Lib.hid hno
    have x0 : wr.cell? ⟨w.heap.size, 0, none⟩ = some (.int .i64 0) := X0.out.cell 0
    have x1 : wr.cell? ⟨w.heap.size, 1, none⟩ = some (.int .i64 0) := X0.out.cell 1
    have x2 : wr.cell? ⟨w.heap.size, 2, none⟩ = some (.int .i64 0) := X0.out.cell 2
    have f0 := X0.out.free 0
    have f1 := X0.out.free 1
    have f2 := X0.out.free 2
    by_cases hlt : j < n
    · have hjl : j < l.length := by rw [HL.out]; exact hlt
      obtain ⟨b, o, rfl, _, hc⟩ := row_at3 H1.out (by omega)
      obtain ⟨d0, d1, d2⟩ := hc j hjl
      have HT := Lib.hid (show l[j].1 ≠ k → ∀ r ∈ l.take (j + 1), r.1 ≠ k from fun hne r hr => by
        rw [List.take_succ_eq_append_getElem hjl, List.mem_append, List.mem_singleton] at hr
        rcases hr with hr | rfl
        · exact hno r hr
        · exact hne)
      have HF := Lib.hid (show l[j].1 = k → fnd l k = some (l[j].2.1, l[j].2.2) from fun he => fnd_at hjl hno he)
      clear hc hno
      generalize l[j].1 = p at *
      generalize l[j].2.1 = q at *
      generalize l[j].2.2 = r at *
      by_cases hp : p = k
      · subst hp
        have hf := HF.out rfl
        go_wp2
        have hq := ((X0.out.set 0 (.int .i64 p)).set 1 (.int .i64 q)).set 2 (.int .i64 r)
        simp only [List.set_cons_zero, List.set_cons_succ] at hq
        have y0 := hq.cell 0
        have y1 := hq.cell 1
        have y2 := hq.cell 2
        simp only [List.getElem?_cons_zero, List.getElem?_cons_succ] at y0 y1 y2
        refine bodyPost_ret (v := .tuple #[.agg #[.int .i64 p, .int .i64 q, .int .i64 r], .bool true]) (by simp [results, Try.results39, go_sem, y0, y1, y2]) rfl ?_
        have e1 : fndR l p = (p, q, r) := by unfold fndR; rw [hf]
        refine ⟨by rw [e1, hf]; rfl, ((K0.out.setCell (p := ⟨w.heap.size, 0, none⟩) (Nat.le_refl _) _).setCell (p := ⟨w.heap.size, 1, none⟩) (Nat.le_refl _) _).setCell (p := ⟨w.heap.size, 2, none⟩) (Nat.le_refl _) _⟩
      · have g0 : (p == k) = false := by rw [beq_eq_false_iff_ne]; exact hp
        have hn2 := HT.out hp
        have HN2 := Lib.hid hn2
        clear hn2
        go_wp2
        exact ⟨⟨j + 1, by omega, by go_num, HN2.out, by first | rfl | trivial⟩, by simp [intOf]; omega⟩
    · have e1 : l.take j = l := List.take_of_length_le (by rw [HL.out]; omega)
      rw [e1] at hno
      have hf : fnd l k = none := fnd_none (fun hm => by obtain ⟨r, hr, e⟩ := List.mem_map.1 hm; exact hno r hr e)
      clear hno HN e1
      go_wp2
      have hq := ((X0.out.set 0 (.int .i64 0)).set 1 (.int .i64 0)).set 2 (.int .i64 0)
      simp only [List.set_cons_zero, List.set_cons_succ] at hq
      have y0 := hq.cell 0
      have y1 := hq.cell 1
      have y2 := hq.cell 2
      simp only [List.getElem?_cons_zero, List.getElem?_cons_succ] at y0 y1 y2
      refine bodyPost_ret (v := .tuple #[.agg #[.int .i64 0, .int .i64 0, .int .i64 0], .bool false]) (by simp [results, Try.results39, go_sem, y0, y1, y2]) rfl ?_
      have e1 : fndR l k = (0, 0, 0) := by unfold fndR; rw [hf]
      refine ⟨by rw [e1, hf]; rfl, ((K0.out.setCell (p := ⟨w.heap.size, 0, none⟩) (Nat.le_refl _) _).setCell (p := ⟨w.heap.size, 1, none⟩) (Nat.le_refl _) _).setCell (p := ⟨w.heap.size, 2, none⟩) (Nat.le_refl _) _⟩

def ListPost (w : World) (l : List (Int × Int × Int)) (e : Ending) (w' : World) : Prop :=
  ∃ A c, e = .returned (.slice A l.length c) ∧ AccQ w' w.heap.size A c l ∧ Below w.heap.size w w'

set_option maxRecDepth 100000 in
set_option maxHeartbeats 800000 in
theorem refwithout_calls (a : Option Addr) (n c : Nat) (l : List (Int × Int × Int)) (k : Int) (w : World) (h : Row ec w w.heap.size a n l) (hn : n ≤ 1099511627776) :
    Calls Try.prog 40 #[.slice a n c, .int .i64 k] w (ListPost w (remR l k)) := by
  have HL := Lib.hid h.1
  have H1 := Lib.hid h
  clear h
  go_enter Try.func40, Try.ntmps40
  go_wp2_with fail
  go_loopw [5, 6] (fun s t W => ∃ (j cc : Nat) (A : Option Addr), j ≤ n ∧ t = .int .i64 (j : Int) ∧ s = .slice A (remR (l.take j) k).length cc ∧ AccQ W w.heap.size A cc (remR (l.take j) k) ∧ Below w.heap.size w W) (fun _ t _ => n - (intOf t).toNat)
  case atStart => exact ⟨0, 0, none, Nat.zero_le _, rfl, by simp [remR], by simp only [List.take_zero]; exact AccR.nil _ _ _, Below.refl _ _⟩
  case round =>
    obtain ⟨j, cc, A, hj, rfl, rfl, hA, hB⟩ := hrel
    have HA := Lib.hid hA
    have HB := Lib.hid hB
    by_cases hlt : j < n
    · have hjl : j < l.length := by rw [HL.out]; exact hlt
      obtain ⟨b, o, rfl, _, hc⟩ := row_at3 (H1.out.below hB) (by omega)
      obtain ⟨d0, d1, d2⟩ := hc j hjl
      have CT := Lib.hid (show remR (l.take (j + 1)) k = remR (l.take j) k ++ (if (!(l[j].1 == k)) = true then [l[j]] else []) by
        unfold remR
        rw [List.take_succ_eq_append_getElem hjl, List.filter_append, List.filter_cons, List.filter_nil])
      have hln : (remR (l.take j) k).length ≤ n := by
        have h1 := len_remR_le (l.take j) k
        have h2 : (l.take j).length ≤ n := by simp; omega
        omega
      obtain ⟨A3, c3, w3, r3, a3, g3⟩ := accq_push hA l[j] hB.size (by omega) 26
      have R3 := Lib.hid r3
      have A3' := Lib.hid a3
      have K3 := Lib.hid (belr_acc hB hA g3)
      have HEQ := Lib.hid (show l[j] = (l[j].1, l[j].2.1, l[j].2.2) from rfl)
      simp only [ec] at R3
      rw [HEQ.out] at A3' CT
      clear hc hA hB r3 a3 g3 HEQ
      generalize l[j].1 = p at *
      generalize l[j].2.1 = q at *
      generalize l[j].2.2 = r at *
      generalize remR (l.take j) k = rl at *
      by_cases hp : p = k
      · subst hp
        have CT2 := Lib.hid (show remR (l.take (j + 1)) p = rl by rw [CT.out]; simp)
        clear CT
        go_wp2
        exact ⟨⟨j + 1, cc, A, by omega, by go_num, by rw [CT2.out], by rw [CT2.out]; exact HA.out, HB.out⟩, by simp [intOf]; omega⟩
      · have g0 : (p == k) = false := by rw [beq_eq_false_iff_ne]; exact hp
        have g1 : (p != k) = true := by simpa using hp
        have CT2 := Lib.hid (show remR (l.take (j + 1)) k = rl ++ [(p, q, r)] by rw [CT.out, g0]; rfl)
        clear CT
        go_wp2_with (at_builtin; refine step_append rfl rfl rfl rfl R3.out ?_)
        exact ⟨⟨j + 1, c3, A3, by omega, by go_num, by rw [CT2.out]; simp, by rw [CT2.out]; exact A3'.out, K3.out⟩, by simp [intOf]; omega⟩
    · have e1 : l.take j = l := List.take_of_length_le (by rw [HL.out]; omega)
      rw [e1] at HA ⊢
      clear hA hB
      generalize remR l k = rl at *
      go_wp2
      go_ret
      exact ⟨A, cc, rfl, HA.out, HB.out⟩

/-! ### with -/

/-- What was gathered of some rows, and whether the new one is among them. -/
def lessR (l : List (Int × Int × Int)) (x : Int) : List (Int × Int × Int) := l.filter (fun r => decide (r.1 < x))
def moreR (l : List (Int × Int × Int)) (x : Int) : List (Int × Int × Int) := l.filter (fun r => decide (x < r.1))
def gathR (l : List (Int × Int × Int)) (x : Int × Int × Int) : List (Int × Int × Int) := if moreR l x.1 = [] then lessR l x.1 else lessR l x.1 ++ x :: moreR l x.1

theorem gath_end (l : List (Int × Int × Int)) (x : Int × Int × Int) : (moreR l x.1 = [] → gathR l x ++ [x] = insR l x) ∧ (moreR l x.1 ≠ [] → gathR l x = insR l x) := by
  refine ⟨fun h => ?_, fun h => ?_⟩
  · unfold gathR insR
    rw [if_pos h]
    unfold moreR at h
    rw [h]; rfl
  · unfold gathR
    rw [if_neg h]; rfl
theorem gath_step {l : List (Int × Int × Int)} (hr : RisR l) {j : Nat} (hj : j < l.length) (x : Int × Int × Int) :
    (l[j].1 = x.1 → moreR (l.take (j + 1)) x.1 = moreR (l.take j) x.1 ∧ gathR (l.take (j + 1)) x = gathR (l.take j) x) ∧
    (l[j].1 < x.1 → moreR (l.take j) x.1 = [] ∧ moreR (l.take (j + 1)) x.1 = [] ∧ gathR (l.take (j + 1)) x = gathR (l.take j) x ++ [l[j]]) ∧
    (x.1 < l[j].1 → moreR (l.take (j + 1)) x.1 ≠ [] ∧ (moreR (l.take j) x.1 = [] → gathR (l.take (j + 1)) x = (gathR (l.take j) x ++ [x]) ++ [l[j]]) ∧ (moreR (l.take j) x.1 ≠ [] → gathR (l.take (j + 1)) x = gathR (l.take j) x ++ [l[j]])) := by
  have hm : moreR (l.take (j + 1)) x.1 = moreR (l.take j) x.1 ++ (if decide (x.1 < l[j].1) = true then [l[j]] else []) := by
    unfold moreR
    rw [List.take_succ_eq_append_getElem hj, List.filter_append, List.filter_cons, List.filter_nil]
  have hl : lessR (l.take (j + 1)) x.1 = lessR (l.take j) x.1 ++ (if decide (l[j].1 < x.1) = true then [l[j]] else []) := by
    unfold lessR
    rw [List.take_succ_eq_append_getElem hj, List.filter_append, List.filter_cons, List.filter_nil]
  refine ⟨fun h => ?_, fun h => ?_, fun h => ?_⟩
  · rw [decide_eq_false (by omega), if_neg (by simp), List.append_nil] at hm
    rw [decide_eq_false (by omega), if_neg (by simp), List.append_nil] at hl
    refine ⟨hm, ?_⟩
    unfold gathR
    rw [hm, hl]
  · rw [decide_eq_false (by omega), if_neg (by simp), List.append_nil] at hm
    rw [decide_eq_true h, if_pos rfl] at hl
    have h0 : moreR (l.take j) x.1 = [] := by
      unfold moreR
      rw [List.filter_eq_nil_iff]
      intro r hrr
      obtain ⟨i, hi, rfl⟩ := List.mem_iff_getElem.1 hrr
      have hij : i < j := by simp at hi; omega
      have := List.pairwise_iff_getElem.1 hr.pair i j (by omega) hj hij
      simp
      omega
    rw [h0] at hm
    refine ⟨h0, hm, ?_⟩
    unfold gathR
    rw [hm, h0, if_pos rfl, if_pos rfl, hl]
  · rw [decide_eq_true h, if_pos rfl] at hm
    rw [decide_eq_false (by omega), if_neg (by simp), List.append_nil] at hl
    have h1 : moreR (l.take (j + 1)) x.1 ≠ [] := by rw [hm]; simp
    refine ⟨h1, fun h0 => ?_, fun h0 => ?_⟩
    · unfold gathR
      rw [if_neg h1, if_pos h0, hm, h0, hl]; simp
    · unfold gathR
      rw [if_neg h1, if_neg h0, hm, hl]; simp
theorem gath_len (l : List (Int × Int × Int)) (x : Int × Int × Int) : (gathR l x).length ≤ l.length + l.length + 1 := by
  have h1 : (lessR l x.1).length ≤ l.length := List.length_filter_le _ _
  have h2 : (moreR l x.1).length ≤ l.length := List.length_filter_le _ _
  unfold gathR
  split
  · omega
  · simp only [List.length_append, List.length_cons]; omega

set_option maxRecDepth 100000 in
set_option maxHeartbeats 1600000 in
theorem refwith_calls (a : Option Addr) (n c : Nat) (l : List (Int × Int × Int)) (x y z : Int) (w : World) (h : Row ec w w.heap.size a n l) (hn : n ≤ 274877906944) (hr : RisR l) :
    Calls Try.prog 49 #[.slice a n c, .agg #[.int .i64 x, .int .i64 y, .int .i64 z]] w (ListPost w (insR l (x, y, z))) := by
  have K0 := Lib.hid (bel_new (Below.refl w.heap.size w) (.cells #[.int .i64 x, .int .i64 y, .int .i64 z] 77))
  have X0 := Lib.hid (Blk.new w 77 [.int .i64 x, .int .i64 y, .int .i64 z])
  have HL := Lib.hid h.1
  have H1 := Lib.hid ((h.below K0.out).more K0.out.size)
  have HR := Lib.hid hr
  clear h hr
  go_enter Try.func49, Try.ntmps49
  go_wp2_with fail
  generalize w.alloc (.cells #[.int .i64 x, .int .i64 y, .int .i64 z] 77) = w1 at *
  go_loopw [5, 6, 7] (fun s f t W => ∃ (j cc : Nat) (A : Option Addr), j ≤ n ∧ t = .int .i64 (j : Int) ∧ f = .bool (!(moreR (l.take j) x).isEmpty) ∧ s = .slice A (gathR (l.take j) (x, y, z)).length cc ∧ AccQ W w1.heap.size A cc (gathR (l.take j) (x, y, z)) ∧ Below w1.heap.size w1 W) (fun _ _ t _ => n - (intOf t).toNat)
  case atStart => exact ⟨0, 0, none, Nat.zero_le _, rfl, by simp [moreR], by simp [gathR, moreR, lessR], by simp only [List.take_zero]; exact AccR.nil _ _ _, Below.refl _ _⟩
  case round =>
    obtain ⟨j, cc, A, hj, rfl, rfl, rfl, hA, hB⟩ := hrel
    have HA := Lib.hid hA
    have HB := Lib.hid hB
    have X3 := Lib.hid (X0.out.below hB)
    by_cases hlt : j < n
    · have hjl : j < l.length := by rw [HL.out]; exact hlt
      obtain ⟨b, o, rfl, hbb, hc⟩ := row_at3 (H1.out.below hB) (by omega)
      have AT := Lib.hid (hc j hjl)
      have GS := Lib.hid (gath_step HR.out hjl (x, y, z))
      have hln : (gathR (l.take j) (x, y, z)).length ≤ 1099511627775 := by
        have h1 := gath_len (l.take j) (x, y, z)
        have h2 : (l.take j).length ≤ n := by simp; omega
        omega
      have HEQ := Lib.hid (show l[j] = (l[j].1, l[j].2.1, l[j].2.2) from rfl)
      rw [HEQ.out] at GS
      clear hc HEQ
      generalize l[j].1 = p at *
      generalize l[j].2.1 = q at *
      generalize l[j].2.2 = r at *
      simp only at GS
      go_wp2_with fail
      refine region_seq (fun W => At3 W b (o + j * 3) p q r ∧ W.cell? ⟨w.heap.size, 0, none⟩ = some (.int .i64 x)) [(0, true), (1, true), (2, true), (3, true), (4, true), (5, true), (6, true), (7, true)]
        (by kernel_rfl) (by kernel_rfl) (by kernel_rfl) (by kernel_rfl) (fun _ _ _ _ _ h => h) ⟨AT.out, X3.out.cell 0⟩ ?_
      repeat
        refine seq_pure (v := ?_) rfl (by rfl) (fun W hW => ?_) ?_
        rotate_left
        · obtain ⟨⟨d0, d1, d2⟩, x0⟩ := hW
          go_simp
          try with_reducible rfl
        simp only [Act.put, List.setIfInBounds_toArray, List.set_cons_zero, List.set_cons_succ]
      refine seq_done ?_
      by_cases hp : p = x
      · subst hp
        have G := Lib.hid (GS.out.1 rfl)
        clear GS
        go_wp2
        refine ⟨⟨j + 1, cc, A, by omega, by go_num, by rw [G.out.1], by rw [G.out.2], by rw [G.out.2]; exact HA.out.drew, bel_drewN HB.out 1⟩, by simp [intOf]; omega⟩
      · have g0 : (p == x) = false := by rw [beq_eq_false_iff_ne]; exact hp
        have HAd := Lib.hid (show AccQ wr.drew.drew w1.heap.size A cc (gathR (l.take j) (x, y, z)) from HA.out)
        have HBd := Lib.hid (show Below w1.heap.size w1 wr.drew.drew from bel_drewN HB.out 2)
        have ATd := Lib.hid (show At3 wr.drew.drew b (o + j * 3) p q r from AT.out)
        have Xd := Lib.hid (show Blk wr.drew.drew w.heap.size 77 [.int .i64 x, .int .i64 y, .int .i64 z] from X3.out)
        by_cases hpx : p < x
        · have g1 : decide (p > x) = false := by simp; omega
          have g1' : decide (x < p) = false := by simp; omega
          obtain ⟨m0, m1, gg⟩ := GS.out.2.1 hpx
          rw [m0]
          have G := Lib.hid gg
          have M1 := Lib.hid m1
          clear GS gg m0 m1
          go_wp2_with fail
          refine region_seq (fun W => At3 W b (o + j * 3) p q r ∧ W.cell? ⟨w.heap.size, 0, none⟩ = some (.int .i64 x)) [(0, true), (1, true), (2, true), (3, true), (4, true), (5, true), (6, true), (7, true), (8, true), (9, true), (10, true), (11, true)]
            (by kernel_rfl) (by kernel_rfl) (by kernel_rfl) (by kernel_rfl) (fun _ _ _ _ _ h => h) ⟨AT.out, X3.out.cell 0⟩ ?_
          repeat
            first
            | (refine seq_pure (v := ?_) rfl (by rfl) (fun W hW => ?_) ?_
               rotate_left
               · obtain ⟨⟨d0, d1, d2⟩, x0⟩ := hW
                 go_simp
                 try with_reducible rfl
               simp only [Act.put, List.setIfInBounds_toArray, List.set_cons_zero, List.set_cons_succ])
            | (refine seq_skip rfl (by rfl) ?_
               simp only [Act.put, List.setIfInBounds_toArray, List.set_cons_zero, List.set_cons_succ])
          refine seq_done ?_
          generalize wr.drew.drew = wd at *
          obtain ⟨A3, c3, w3, r3, a3, g3⟩ := accq_push HAd.out (p, q, r) HBd.out.size (by omega) 26
          have R3 := Lib.hid r3
          have A3' := Lib.hid a3
          have K3 := Lib.hid (belr_acc HBd.out HAd.out g3)
          simp only [ec] at R3
          obtain ⟨d0, d1, d2⟩ := ATd.out
          clear r3 a3 g3
          generalize gathR (l.take j) (x, y, z) = gl at *
          go_wp2_with (at_builtin; refine step_append rfl rfl rfl rfl R3.out ?_)
          exact ⟨⟨j + 1, c3, A3, by omega, by go_num, by rw [M1.out]; rfl, by rw [G.out]; simp, by rw [G.out]; exact A3'.out, K3.out⟩, by simp [intOf]; omega⟩
        · have hpx2 : x < p := by omega
          have g1 : decide (p > x) = true := by simp; omega
          have g1' : decide (x < p) = true := by simp; omega
          obtain ⟨m1, ga, gb⟩ := GS.out.2.2 hpx2
          have M1 := Lib.hid (show (moreR (l.take (j + 1)) x).isEmpty = false by cases hm : moreR (l.take (j + 1)) x with | nil => exact absurd hm m1 | cons _ _ => rfl)
          by_cases hem : moreR (l.take j) x = []
          · have G := Lib.hid (ga hem)
            rw [hem]
            clear GS ga gb m1 hem
            go_wp2_with fail
            refine region_seq (fun W => At3 W b (o + j * 3) p q r ∧ W.cell? ⟨w.heap.size, 0, none⟩ = some (.int .i64 x)) [(0, true), (1, true), (2, true), (3, true), (4, true), (5, true), (6, true), (7, true), (8, true), (9, true), (10, true), (11, true)]
              (by kernel_rfl) (by kernel_rfl) (by kernel_rfl) (by kernel_rfl) (fun _ _ _ _ _ h => h) ⟨AT.out, X3.out.cell 0⟩ ?_
            repeat
              first
              | (refine seq_pure (v := ?_) rfl (by rfl) (fun W hW => ?_) ?_
                 rotate_left
                 · obtain ⟨⟨d0, d1, d2⟩, x0⟩ := hW
                   go_simp
                   try with_reducible rfl
                 simp only [Act.put, List.setIfInBounds_toArray, List.set_cons_zero, List.set_cons_succ])
              | (refine seq_skip rfl (by rfl) ?_
                 simp only [Act.put, List.setIfInBounds_toArray, List.set_cons_zero, List.set_cons_succ])
            refine seq_done ?_
            generalize wr.drew.drew = wd at *
            obtain ⟨A3, c3, w3, r3, a3, g3⟩ := accq_push HAd.out (x, y, z) HBd.out.size (by omega) 26
            have b3 := belr_acc HBd.out HAd.out g3
            have hat3 : At3 w3 b (o + j * 3) p q r := by
              have hbw : b < w1.heap.size := Nat.lt_of_lt_of_le hbb (Nat.le_refl _)
              exact ⟨(b3.cell (p := ⟨b, o + j * 3, none⟩) hbw).trans ((HBd.out.cell (p := ⟨b, o + j * 3, none⟩) hbw).symm.trans ATd.out.1), (b3.cell (p := ⟨b, o + j * 3 + 1, none⟩) hbw).trans ((HBd.out.cell (p := ⟨b, o + j * 3 + 1, none⟩) hbw).symm.trans ATd.out.2.1), (b3.cell (p := ⟨b, o + j * 3 + 2, none⟩) hbw).trans ((HBd.out.cell (p := ⟨b, o + j * 3 + 2, none⟩) hbw).symm.trans ATd.out.2.2)⟩
            obtain ⟨A4, c4, w4, r4, a4, g4⟩ := accq_push a3 (p, q, r) b3.size (by rw [List.length_append, List.length_singleton]; omega) 26
            have R3 := Lib.hid r3
            have R4 := Lib.hid r4
            have A4' := Lib.hid a4
            have K4 := Lib.hid (belr_acc b3 a3 g4)
            simp only [ec] at R3 R4
            have x0 : wd.cell? ⟨w.heap.size, 0, none⟩ = some (.int .i64 x) := Xd.out.cell 0
            have x1 : wd.cell? ⟨w.heap.size, 1, none⟩ = some (.int .i64 y) := Xd.out.cell 1
            have x2 : wd.cell? ⟨w.heap.size, 2, none⟩ = some (.int .i64 z) := Xd.out.cell 2
            obtain ⟨d0, d1, d2⟩ := hat3
            clear r3 a3 g3 r4 a4 g4 b3
            simp only [List.length_append, List.length_cons, List.length_nil, Nat.zero_add] at R4
            generalize gathR (l.take j) (x, y, z) = gl at *
            go_wp2_with (at_builtin; first | (refine step_append (o := ⟨some 37, _, _, _, _, _⟩) rfl rfl rfl rfl R3.out ?_) | (refine step_append (o := ⟨some 44, _, _, _, _, _⟩) rfl rfl rfl rfl R4.out ?_))
            exact ⟨⟨j + 1, c4, A4, by omega, by go_num, by rw [M1.out]; rfl, by rw [G.out]; simp, by rw [G.out]; exact A4'.out, K4.out⟩, by simp [intOf]; omega⟩
          · have G := Lib.hid (gb hem)
            have M0 := Lib.hid (show (moreR (l.take j) x).isEmpty = false by cases hm : moreR (l.take j) x with | nil => exact absurd hm hem | cons _ _ => rfl)
            rw [M0.out]
            clear GS ga gb m1 hem
            go_wp2_with fail
            refine region_seq (fun W => At3 W b (o + j * 3) p q r ∧ W.cell? ⟨w.heap.size, 0, none⟩ = some (.int .i64 x)) [(0, true), (1, true), (2, true), (3, true), (4, true), (5, true), (6, true), (7, true), (8, true), (9, true), (10, true), (11, true)]
              (by kernel_rfl) (by kernel_rfl) (by kernel_rfl) (by kernel_rfl) (fun _ _ _ _ _ h => h) ⟨AT.out, X3.out.cell 0⟩ ?_
            repeat
              first
              | (refine seq_pure (v := ?_) rfl (by rfl) (fun W hW => ?_) ?_
                 rotate_left
                 · obtain ⟨⟨d0, d1, d2⟩, x0⟩ := hW
                   go_simp
                   try with_reducible rfl
                 simp only [Act.put, List.setIfInBounds_toArray, List.set_cons_zero, List.set_cons_succ])
              | (refine seq_skip rfl (by rfl) ?_
                 simp only [Act.put, List.setIfInBounds_toArray, List.set_cons_zero, List.set_cons_succ])
            refine seq_done ?_
            generalize wr.drew.drew = wd at *
            obtain ⟨A3, c3, w3, r3, a3, g3⟩ := accq_push HAd.out (p, q, r) HBd.out.size (by omega) 26
            have R3 := Lib.hid r3
            have A3' := Lib.hid a3
            have K3 := Lib.hid (belr_acc HBd.out HAd.out g3)
            simp only [ec] at R3
            obtain ⟨d0, d1, d2⟩ := ATd.out
            clear r3 a3 g3
            generalize gathR (l.take j) (x, y, z) = gl at *
            go_wp2_with (at_builtin; refine step_append rfl rfl rfl rfl R3.out ?_)
            exact ⟨⟨j + 1, c3, A3, by omega, by go_num, by rw [M1.out]; rfl, by rw [G.out]; simp, by rw [G.out]; exact A3'.out, K3.out⟩, by simp [intOf]; omega⟩
    · have e1 : l.take j = l := List.take_of_length_le (by rw [HL.out]; omega)
      rw [e1] at HA ⊢
      have GE := Lib.hid (gath_end l (x, y, z))
      have hln : (gathR l (x, y, z)).length ≤ 1099511627776 := by
        have h1 := gath_len l (x, y, z)
        have h2 : l.length = n := HL.out
        omega
      have x0 : wr.cell? ⟨w.heap.size, 0, none⟩ = some (.int .i64 x) := X3.out.cell 0
      have x1 : wr.cell? ⟨w.heap.size, 1, none⟩ = some (.int .i64 y) := X3.out.cell 1
      have x2 : wr.cell? ⟨w.heap.size, 2, none⟩ = some (.int .i64 z) := X3.out.cell 2
      clear hA hB e1
      by_cases hem : moreR l x = []
      · obtain ⟨A3, c3, w3, r3, a3, g3⟩ := accq_push HA.out (x, y, z) HB.out.size hln 26
        have R3 := Lib.hid r3
        have A3' := Lib.hid a3
        have K3 := Lib.hid (belr_acc HB.out HA.out g3)
        have G := Lib.hid (GE.out.1 hem)
        simp only [ec] at R3
        rw [hem]
        clear r3 a3 g3 GE hem
        generalize gathR l (x, y, z) = gl at *
        go_wp2_with (at_builtin; refine step_append rfl rfl rfl rfl R3.out ?_)
        go_ret
        refine ⟨A3, c3, ?_, ?_, bel_more K0.out (Nat.le_refl _) K3.out⟩
        · rw [← G.out]; simp
        · rw [← G.out]; exact A3'.out.lower K0.out.size
      · have M0 := Lib.hid (show (moreR l x).isEmpty = false by cases hm : moreR l x with | nil => exact absurd hm hem | cons _ _ => rfl)
        have G := Lib.hid (GE.out.2 hem)
        rw [M0.out]
        clear GE hem
        generalize gathR l (x, y, z) = gl at *
        go_wp2
        go_ret
        refine ⟨A, cc, ?_, ?_, bel_more K0.out (Nat.le_refl _) HB.out⟩
        · rw [← G.out]; rfl
        · rw [← G.out]; exact HA.out.lower K0.out.size

/-! ### put -/

/-- The slice is the old one, or lies in memory that is new. -/
def Far5 (B : Nat) (a : Option Addr) (n : Nat) (A : Option Addr) (m : Nat) : Prop := ∀ b o, A = some ⟨b, o, none⟩ → 0 < m → (A = a ∧ 0 < n) ∨ B ≤ b

def PutPost5 (w : World) (a : Option Addr) (n : Nat) (most : Int) (l : List (Int × Int × Int)) (x : Int × Int × Int) (e : Ending) (w' : World) : Prop :=
  ∃ A c, e = .returned (.tuple #[.slice A (setL most l x).length c, .int .i64 (setE most l x.1)]) ∧ Row ec w' w'.heap.size A (setL most l x).length (setL most l x) ∧ Below w.heap.size w w' ∧ Far5 w.heap.size a n A (setL most l x).length

set_option maxRecDepth 100000 in
set_option maxHeartbeats 800000 in
theorem refput_calls (a : Option Addr) (n c : Nat) (l : List (Int × Int × Int)) (most x y z : Int) (w : World) (h : Row ec w w.heap.size a n l) (hn : n ≤ 274877906944) (hr : RisR l) :
    Calls Try.prog 37 #[.slice a n c, .int .i64 most, .agg #[.int .i64 x, .int .i64 y, .int .i64 z]] w (PutPost5 w a n most l (x, y, z)) := by
  have K0 := Lib.hid (bel_new (Below.refl w.heap.size w) (.cells #[.int .i64 x, .int .i64 y, .int .i64 z] 77))
  have X0 := Lib.hid (Blk.new w 77 [.int .i64 x, .int .i64 y, .int .i64 z])
  have HL := Lib.hid h.1
  have H1 := Lib.hid ((h.below K0.out).more K0.out.size)
  have HR := Lib.hid hr
  clear h hr
  go_enter Try.func37, Try.ntmps37
  go_wp2_with fail
  generalize w.alloc (.cells #[.int .i64 x, .int .i64 y, .int .i64 z] 77) = w1 at *
  ((with_reducible refine (reffind_calls a n c l x w1 H1.out (by omega)).mono ?_))
  rintro e w2 ⟨rfl, b2⟩
  generalize (fndR l x).1 = f0
  generalize (fndR l x).2.1 = f1
  generalize (fndR l x).2.2 = f2
  have k3 := bel_new b2 (.cells #[.int .i64 f0, .int .i64 f1, .int .i64 f2] 77)
  have K3 := Lib.hid (bel_more K0.out (Nat.le_refl _) k3)
  have X3 := Lib.hid (X0.out.below k3)
  have H3 := Lib.hid ((H1.out.below k3).more k3.size)
  clear b2 k3
  go_upto_region 2 with fail
  generalize w2.alloc (.cells #[.int .i64 f0, .int .i64 f1, .int .i64 f2] 77) = w3 at *
  have x0 : w3.cell? ⟨w.heap.size, 0, none⟩ = some (.int .i64 x) := X3.out.cell 0
  have x1 : w3.cell? ⟨w.heap.size, 1, none⟩ = some (.int .i64 y) := X3.out.cell 1
  have x2 : w3.cell? ⟨w.heap.size, 2, none⟩ = some (.int .i64 z) := X3.out.cell 2
  by_cases hfull : fnd l x = none ∧ most ≤ l.length
  · have e1 : (fnd l x).isSome = false := by rw [hfull.1]; rfl
    have e2 : setE most l x = 7 := by unfold setE; rw [if_pos hfull]
    have e3 : setL most l (x, y, z) = l := by unfold setL; rw [if_pos hfull]
    have g1 : decide (most ≤ (n : Int)) = true := by have := hfull.2; rw [HL.out] at this; simpa using this
    rw [e1]
    go_wp2
    go_ret2
    refine ⟨a, c, ?_, ?_, K3.out, fun b o e hm => .inl ⟨rfl, by rw [e3, HL.out] at hm; exact hm⟩⟩
    · rw [e2, e3, HL.out]; rfl
    · rw [e3, HL.out]; exact H3.out
  · have e2 : setE most l x = 0 := by unfold setE; rw [if_neg hfull]
    have e3 : setL most l (x, y, z) = insR l (x, y, z) := by unfold setL; rw [if_neg hfull]
    have fin : ∀ (e : Ending) (w' : World), ListPost w3 (insR l (x, y, z)) e w' → ∃ A c, e = .returned (.slice A (insR l (x, y, z)).length c) ∧ Row ec w' w'.heap.size A (insR l (x, y, z)).length (insR l (x, y, z)) ∧ Below w.heap.size w w' ∧ Far5 w.heap.size a n A (insR l (x, y, z)).length := fun e w' ⟨A, c, h1, h2, h3⟩ => ⟨A, c, h1, AccR.row h2, bel_more K3.out (Nat.le_refl _) h3, fun b o e hm => .inr (by subst e; exact Nat.le_trans K3.out.size (AccR.ge h2 rfl).1)⟩
    have FIN := Lib.hid fin
    clear fin
    cases hs : (fnd l x).isSome
    · have g1 : decide (most ≤ (n : Int)) = false := by
        rw [decide_eq_false_iff_not]
        intro hle
        exact hfull ⟨by simpa using hs, by rw [HL.out]; exact hle⟩
      go_wp2_with fail
      ((with_reducible refine (refwith_calls a n c l x y z w3 H3.out hn HR.out).mono ?_))
      rintro e w4 h4
      obtain ⟨A, c4, rfl, r4, b4, fr⟩ := FIN.out e w4 h4
      have R4 := Lib.hid r4
      have B4 := Lib.hid b4
      clear h4 r4 b4 x0 x1 x2
      go_wp2
      go_ret2
      refine ⟨A, c4, ?_, ?_, B4.out, by rw [e3]; exact fr⟩
      · rw [e2, e3]; rfl
      · rw [e3]; exact R4.out
    · go_wp2_with fail
      ((with_reducible refine (refwith_calls a n c l x y z w3 H3.out hn HR.out).mono ?_))
      rintro e w4 h4
      obtain ⟨A, c4, rfl, r4, b4, fr⟩ := FIN.out e w4 h4
      have R4 := Lib.hid r4
      have B4 := Lib.hid b4
      clear h4 r4 b4 x0 x1 x2
      go_wp2
      go_ret2
      refine ⟨A, c4, ?_, ?_, B4.out, by rw [e3]; exact fr⟩
      · rw [e2, e3]; rfl
      · rw [e3]; exact R4.out
end Go.Proofs.Ytkbbnfinmipenaa
