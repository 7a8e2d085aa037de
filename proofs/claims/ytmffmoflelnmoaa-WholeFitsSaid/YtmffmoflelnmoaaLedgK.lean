/-
  What the code of layer 13 (ledger) keeps: Add, total, Sum, Right, may, Free, Put, Take. Condition: numbers of 64 bits, eight priorities.
-/
import Derived.Test.YtmffmoflelnmoaaLedgC
namespace Go.Proofs.Ytmffmoflelnmoaa
set_option maxRecDepth 100000
set_option linter.unusedVariables false
open Go.RowKit

theorem add13_calls (a b : Nat) (ha : a < 18446744073709551616) (hb : b < 18446744073709551616) (w : World) : Calls Try.prog 47 #[.int .u64 (a : Int), .int .u64 (b : Int)] w fun e w' => e = .returned (.tuple #[.int .u64 ((aS (a + b) : Nat) : Int), .bool (decide (a + b < 18446744073709551616))]) ∧ w' = w := by
  unfold aS
  by_cases h : a + b < 18446744073709551616
  · have e2 : IntKind.u64.wrap ((a : Int) + (b : Int)) = ((a + b : Nat) : Int) := by rw [IntKind.wrap_u64]; omega
    have h1 : ¬ (((a + b : Nat) : Int) < (a : Int)) := by omega
    rw [if_pos h, decide_eq_true h]
    generalize a + b = n at e2 h1
    clear h
    go_enter Try.func47, Try.ntmps47
    go_wp2
    refine bodyPost_ret (v := .tuple #[.int .u64 (n : Int), .bool true]) (by simp [results, Try.results47, go_sem]) rfl ?_
    exact ⟨rfl, rfl⟩
  · have e2 : IntKind.u64.wrap ((a : Int) + (b : Int)) = ((a + b - 18446744073709551616 : Nat) : Int) := by rw [IntKind.wrap_u64]; omega
    have h1 : ((a + b - 18446744073709551616 : Nat) : Int) < (a : Int) := by omega
    rw [if_neg h, decide_eq_false h]
    generalize a + b - 18446744073709551616 = n at e2 h1
    clear h
    go_enter Try.func47, Try.ntmps47
    go_wp2
    refine bodyPost_ret (v := .tuple #[.int .u64 0, .bool false]) (by simp [results, Try.results47, go_sem]) rfl ?_
    exact ⟨rfl, rfl⟩
theorem addok13 : AddOk13 := fun a b ha hb w => (add13_calls a b ha hb w).mono fun _ _ ⟨h1, h2⟩ => ⟨h1, by rw [h2]; exact Below.refl _ _⟩

theorem total13_calls (l : List Nat) (hl : ∀ n ∈ l, n < 18446744073709551616) (n c b o : Nat) (hn : l.length = n) (hn8 : n ≤ 1024) (w : World) (hr : ∀ i : Nat, i < n → w.cell? ⟨b, o + i, none⟩ = some (.int .u64 ((l.getD i 0 : Nat) : Int))) :
    Calls Try.prog 39 #[.slice (some ⟨b, o, none⟩) n c] w fun e w' => e = .returned (.tuple #[.int .u64 ((aS l.sum : Nat) : Int), .bool (decide (l.sum < 18446744073709551616))]) ∧ w' = w := by
  have HR := Lib.hid hr
  have HLN := Lib.hid hn
  have HM := Lib.hid hl
  clear hr hn hl
  go_enter Try.func39, Try.ntmps39
  go_wp2_with fail
  go_loopw [4, 11] (fun s t W => ∃ i : Nat, i ≤ n ∧ psum l i < 18446744073709551616 ∧ s = .int .u64 ((psum l i : Nat) : Int) ∧ t = .int .i64 (i : Int) ∧ W = w) (fun s t W => n - (intOf t).toNat)
  case atStart => exact ⟨0, by omega, by rw [psum_zero]; decide, by rw [psum_zero]; rfl, rfl, rfl⟩
  case round =>
    obtain ⟨i, hi, hs, rfl, rfl, rfl⟩ := hrel
    by_cases hip : i < n
    · have i1 : (i : Int) < (n : Int) := by omega
      have hps := psum_succ (h := l) (i := i) (by rw [HLN.out]; omega)
      have hg : l.getD i 0 < 18446744073709551616 := by
        rw [List.getD_eq_getElem?_getD]
        cases e : l[i]? with
        | none => simp
        | some x => exact HM.out x (List.mem_of_getElem? e)
      have hc : wr.cell? ⟨b, o + i, none⟩ = some (.int .u64 ((l.getD i 0 : Nat) : Int)) := HR.out i hip
      have hk := add13_calls (psum l i) (l.getD i 0) hs hg wr
      rw [← hps] at hk
      have hle := psum_le_sum l (i + 1)
      obtain ⟨C, hC⟩ : ∃ C, psum l (i + 1) = C := ⟨_, rfl⟩
      have HC := Lib.hid hC
      rw [hC] at hk hle
      generalize l.getD i 0 = B at *
      generalize psum l i = A at *
      clear hps hC hg hs
      have HE := Lib.hid hle
      clear hle
      by_cases hC : C < 18446744073709551616
      · unfold aS at hk
        rw [if_pos hC, decide_eq_true hC] at hk
        have HK2 := Lib.hid hk
        have HC2 := Lib.hid hC
        clear hk hC
        go_wp2_with fail
        ((with_reducible refine HK2.out.mono ?_))
        rintro e w2 ⟨rfl, rfl⟩
        go_wp2_with fail
        go_roundw
        case rel => exact ⟨i + 1, by omega, by rw [HC.out]; exact HC2.out, by rw [HC.out], by first | rfl | (simp; omega), by first | rfl | trivial⟩
        case measure => simp [intOf]; omega
      · unfold aS at hk
        rw [if_neg hC, decide_eq_false hC] at hk
        have HK2 := Lib.hid hk
        have HC2 := Lib.hid hC
        clear hk hC
        go_wp2_with fail
        ((with_reducible refine HK2.out.mono ?_))
        rintro e w2 ⟨rfl, rfl⟩
        go_wp2_with fail
        refine bodyPost_ret (v := .tuple #[.int .u64 0, .bool false]) (by simp [results, Try.results39, go_sem]) rfl ?_
        refine ⟨?_, rfl⟩
        have h1 := HC2.out
        have h2 := HE.out
        have h3 : ¬ l.sum < 18446744073709551616 := by omega
        unfold aS
        rw [if_neg h3, decide_eq_false h3]
        rfl
    · obtain rfl : i = n := by omega
      have i1 : ¬ ((i : Nat) : Int) < (i : Int) := by omega
      have HS := Lib.hid hs
      have HP := Lib.hid (psum_all (h := l) (n := i) (by rw [HLN.out]; exact Nat.le_refl _))
      clear hip hs
      go_wp2_with fail
      refine bodyPost_ret (v := .tuple #[.int .u64 ((psum l i : Nat) : Int), .bool true]) (by simp [results, Try.results39, go_sem]) rfl ?_
      refine ⟨?_, rfl⟩
      have hs := HS.out
      rw [HP.out] at hs ⊢
      unfold aS
      rw [if_pos hs, decide_eq_true hs]

/-- The cells of the first priorities of a ledger in memory. -/
theorem held_cells {l : Lg} (hl : LgOk l) {W : World} {q : Nat} {T : TypeId} (hb : Blk W q T (lgc l)) (m : Nat) (hm : m ≤ 8) : ∀ i : Nat, i < m → W.cell? ⟨q, 1 + i, none⟩ = some (.int .u64 (((l.held.take m).getD i 0 : Nat) : Int)) := by
  intro i hi
  rw [hb.cell, lgc_held hl (by omega), List.getD_eq_getElem?_getD, List.getD_eq_getElem?_getD, List.getElem?_take_of_lt hi]
theorem take_lt {l : Lg} (hl : LgOk l) (m : Nat) : ∀ n ∈ l.held.take m, n < 18446744073709551616 := fun n hn => hl.2.2 n (List.mem_of_mem_take hn)
theorem total_take {l : Lg} (hl : LgOk l) (m : Nat) (hm : m ≤ 8) {W : World} {q : Nat} {T : TypeId} (hb : Blk W q T (lgc l)) (c : Nat) :
    Calls Try.prog 39 #[.slice (some ⟨q, 1, none⟩) m c] W fun e w' => e = .returned (.tuple #[.int .u64 ((aS (psum l.held m) : Nat) : Int), .bool (decide (psum l.held m < 18446744073709551616))]) ∧ w' = W :=
  total13_calls (l.held.take m) (take_lt hl m) m c q 1 (by rw [List.length_take, hl.1]; omega) (by omega) W (held_cells hl hb m hm)

theorem sumok13 : SumOk13 := by
  intro l hl w
  unfold Two13
  have hn := Blk.new w 65 (lgc l)
  have hk := total_take hl 8 (by omega) hn 8
  rw [psum_all (by rw [hl.1]; exact Nat.le_refl _)] at hk
  have HK := Lib.hid hk
  have HL := Lib.hid (bel_new (Below.refl w.heap.size w) (.cells (lgc l).toArray 65))
  clear hn hk
  go_enter Try.func80, Try.ntmps80
  go_upto_region 1 with fail
  generalize (w.alloc (.cells (lgc l).toArray 65)) = w1 at *
  go_wp2_with fail
  ((with_reducible refine HK.out.mono ?_))
  rintro e w2 ⟨rfl, rfl⟩
  go_wp2_with fail
  refine bodyPost_ret (v := .tuple #[.int .u64 ((aS l.held.sum : Nat) : Int), .bool (decide (l.held.sum < 18446744073709551616))]) (by simp [results, Try.results80, go_sem]) rfl ?_
  exact ⟨rfl, HL.out⟩
theorem rightok13 : RightOk13 := by
  intro l hl w
  have hn := Blk.new w 65 (lgc l)
  have HB := Lib.hid hn
  have HL := Lib.hid (bel_new (Below.refl w.heap.size w) (.cells (lgc l).toArray 65))
  have HN := Lib.hid (infoLedg9 l hl)
  clear hn
  have hk := sumok13 l hl
  have hcap := hl.2.1
  unfold lRight
  by_cases hC : l.held.sum < 18446744073709551616
  · unfold Two13 aS at hk
    rw [if_pos hC, decide_eq_true hC] at hk
    have HK := Lib.hid hk
    clear hk hC hcap
    go_enter Try.func65, Try.ntmps65
    go_upto_region 1 with fail
    generalize (w.alloc (.cells (lgc l).toArray 65)) = w1 at *
    go_wp2_with ((with_reducible refine step_load (o := ⟨some 6, _, _, _, _, _⟩) (x := .tmp 1) ?_ ?_ ?_ HB.out Try.underlying65 ?_ HN.out ?_); (rfl); (rfl); (rfl); (rfl))
    ((with_reducible refine (HK.out w1).mono ?_))
    rintro e w2 ⟨rfl, hb⟩
    have c0 : w2.cell? ⟨w.heap.size, 0, none⟩ = some (.int .u64 (l.cap : Int)) := ((HB.out.below hb).cell 0).trans (lgc_cap l)
    have HH := Lib.hid hb
    clear hb
    go_wp2_with fail
    go_ret
    refine ⟨?_, HL.out.trans (HH.out.mono HL.out.size)⟩
    simp
  · have h4 : ¬ l.held.sum ≤ l.cap := by omega
    rw [decide_eq_false h4]
    unfold Two13 aS at hk
    rw [if_neg hC, decide_eq_false hC] at hk
    have HK := Lib.hid hk
    clear hk hC hcap h4
    go_enter Try.func65, Try.ntmps65
    go_upto_region 1 with fail
    generalize (w.alloc (.cells (lgc l).toArray 65)) = w1 at *
    go_wp2_with ((with_reducible refine step_load (o := ⟨some 6, _, _, _, _, _⟩) (x := .tmp 1) ?_ ?_ ?_ HB.out Try.underlying65 ?_ HN.out ?_); (rfl); (rfl); (rfl); (rfl))
    ((with_reducible refine (HK.out w1).mono ?_))
    rintro e w2 ⟨rfl, hb⟩
    have HH := Lib.hid hb
    clear hb
    go_wp2_with fail
    go_ret
    exact ⟨rfl, HL.out.trans (HH.out.mono HL.out.size)⟩

/-- Something may be put or taken at a priority. -/
def lMay (l : Lg) (p : Int) : Bool := decide (0 ≤ p ∧ p ≤ 7) && lRight l
theorem may13_calls (l : Lg) (hl : LgOk l) (p : Int) (w : World) : Calls Try.prog 64 #[.agg (lgc l).toArray, .int .i64 p] w fun e w' => e = .returned (.bool (lMay l p)) ∧ Below w.heap.size w w' := by
  have hn := Blk.new w 65 (lgc l)
  have HB := Lib.hid hn
  have HL := Lib.hid (bel_new (Below.refl w.heap.size w) (.cells (lgc l).toArray 65))
  have HN := Lib.hid (infoLedg9 l hl)
  have HK := Lib.hid (rightok13 l hl)
  clear hn
  unfold lMay
  by_cases h0 : 0 ≤ p
  · by_cases h8 : p < 8
    · rw [decide_eq_true (show 0 ≤ p ∧ p ≤ 7 by omega), Bool.true_and]
      go_enter Try.func64, Try.ntmps64
      go_upto_region 1 with fail
      generalize (w.alloc (.cells (lgc l).toArray 65)) = w1 at *
      go_wp2_with ((with_reducible refine step_load_want (o := ⟨some 12, _, _, _, _, _⟩) (x := .tmp 2) ?_ ?_ ?_ HB.out Try.underlying65 ?_ HN.out ?_); (rfl); (rfl); (rfl); (rfl))
      ((with_reducible refine (HK.out w1).mono ?_))
      rintro e w2 ⟨rfl, hb⟩
      have HH := Lib.hid hb
      clear hb
      go_wp2_with fail
      go_ret
      exact ⟨rfl, HL.out.trans (HH.out.mono HL.out.size)⟩
    · rw [decide_eq_false (show ¬ (0 ≤ p ∧ p ≤ 7) by omega), Bool.false_and]
      go_enter Try.func64, Try.ntmps64
      go_wp2_with fail
      go_ret
      exact ⟨rfl, HL.out⟩
  · rw [decide_eq_false (show ¬ (0 ≤ p ∧ p ≤ 7) by omega), Bool.false_and]
    go_enter Try.func64, Try.ntmps64
    go_wp2_with fail
    go_ret
    exact ⟨rfl, HL.out⟩

theorem freeok13 : FreeOk13 := by
  intro l hl w
  have HN := Lib.hid (infoLedg9 l hl)
  go_enter Try.func22, Try.ntmps22
  go_upto_region 2 with fail
  obtain ⟨b0, b1, b2, bl⟩ := alloc3 w (lgc l) z8 z8 65 36 36
  have b2' : Blk _ (w.heap.size + 2) 36 (hlc (frq l 0)) := b2
  unfold z8 at b0 b1 b2' bl
  have HL := Lib.hid bl
  have HB := Lib.hid b0
  have HR := Lib.hid b1
  have HO := Lib.hid b2'
  clear b0 b1 b2 bl b2'
  generalize (((w.alloc (.cells (lgc l).toArray 65)).alloc _).alloc _) = w1 at *
  go_wp2_with fail
  go_loopw [7] (fun t W => ∃ i : Nat, i ≤ 8 ∧ t = .int .i64 (i : Int) ∧ Blk W w.heap.size 65 (lgc l) ∧ Blk W (w.heap.size + 1) 36 z8 ∧ Blk W (w.heap.size + 2) 36 (hlc (frq l i)) ∧ Below w.heap.size w W) (fun t W => 8 - (intOf t).toNat)
  case atStart => exact ⟨0, by omega, rfl, HB.out, HR.out, HO.out, HL.out⟩
  case round =>
    obtain ⟨i, hi, rfl, hb, hr, ho, hbl⟩ := hrel
    have HB := Lib.hid hb
    have HR := Lib.hid hr
    have HO := Lib.hid ho
    have HL := Lib.hid hbl
    clear hb hr ho hbl
    by_cases hi8 : i < 8
    · have i1 : (i : Int) < 8 := by omega
      have hk := total_take hl (i + 1) (by omega) HB.out 8
      have hfr := lFree_get l hi8
      have hnx := frq_next l hi8
      have hsm := frq_same l hi8
      have hcap := hl.2.1
      have HX := Lib.hid (And.intro hfr (And.intro hnx hsm))
      clear hfr hnx hsm
      obtain ⟨m, hm⟩ : ∃ m, i + 1 = m := ⟨_, rfl⟩
      have HM := Lib.hid hm
      have m1 : m ≤ 8 := by omega
      have m2 : (m : Int) ≤ 8 := by omega
      have m3 : IntKind.i64.wrap ((i : Int) + 1) = (m : Int) := by rw [IntWalk.i64_in _ (by omega)]; omega
      rw [hm] at hk HX
      clear hm
      by_cases hC : psum l.held m < 18446744073709551616
      · unfold aS at hk
        rw [if_pos hC, decide_eq_true hC] at hk
        have HK := Lib.hid hk
        clear hk
        by_cases hle : psum l.held m ≤ l.cap
        · have h1 : ((psum l.held m : Nat) : Int) ≤ (l.cap : Int) := by omega
          have h2 : IntKind.u64.wrap ((l.cap : Int) - ((psum l.held m : Nat) : Int)) = (((lFree l).getD i 0 : Nat) : Int) := by rw [HX.out.1, IntKind.wrap_u64]; omega
          have H1 := Lib.hid (And.intro h1 h2)
          clear h1 h2 hle hC hcap
          go_wp2_with fail
          ((with_reducible refine HK.out.mono ?_))
          rintro e w2 ⟨rfl, rfl⟩
          have c0 : w2.cell? ⟨w.heap.size, 0, none⟩ = some (.int .u64 (l.cap : Int)) := (HB.out.cell 0).trans (lgc_cap l)
          have f0 := HO.out.free i
          have ci : w2.cell? ⟨w.heap.size + 2, i, none⟩ = some (.int .u64 (((frq l i).getD i 0 : Nat) : Int)) := by
            rw [HO.out.cell i]
            unfold hlc
            rw [List.getElem?_map, List.getD_eq_getElem?_getD, List.getElem?_eq_getElem (by rw [frq_length l (by omega)]; exact hi8)]
            rfl
          obtain ⟨h1, h2⟩ := H1.out
          generalize psum l.held m = C at *
          go_wp2_with fail
          go_roundw
          case rel =>
            refine ⟨m, m1, rfl, HB.out.other (p := ⟨w.heap.size + 2, i, none⟩) (show ¬ w.heap.size + 2 = w.heap.size by omega) _, HR.out.other (p := ⟨w.heap.size + 2, i, none⟩) (show ¬ w.heap.size + 2 = w.heap.size + 1 by omega) _, ?_, HL.out.setCell (p := ⟨w.heap.size + 2, i, none⟩) (show w.heap.size ≤ w.heap.size + 2 by omega) _⟩
            rw [HX.out.2.1, hlc_set]
            exact HO.out.set i _
          case measure => have := HM.out; simp [intOf]; omega
        · have h1 : ¬ ((psum l.held m : Nat) : Int) ≤ (l.cap : Int) := by omega
          have h3 := HX.out.2.2 (by rw [HX.out.1]; omega)
          have H1 := Lib.hid (And.intro h1 h3)
          clear h1 h3 hle hC hcap
          go_wp2_with fail
          ((with_reducible refine HK.out.mono ?_))
          rintro e w2 ⟨rfl, rfl⟩
          have c0 : w2.cell? ⟨w.heap.size, 0, none⟩ = some (.int .u64 (l.cap : Int)) := (HB.out.cell 0).trans (lgc_cap l)
          obtain ⟨h1, h3⟩ := H1.out
          have H3 := Lib.hid h3
          clear h3
          generalize psum l.held m = C at *
          go_wp2_with fail
          go_roundw
          case rel => exact ⟨m, m1, rfl, HB.out, HR.out, by rw [H3.out]; exact HO.out, HL.out⟩
          case measure => have := HM.out; simp [intOf]; omega
      · have h3 := HX.out.2.2 (by rw [HX.out.1]; omega)
        have H3 := Lib.hid h3
        unfold aS at hk
        rw [if_neg hC, decide_eq_false hC] at hk
        have HK := Lib.hid hk
        clear hk h3 hC hcap
        go_wp2_with fail
        ((with_reducible refine HK.out.mono ?_))
        rintro e w2 ⟨rfl, rfl⟩
        go_wp2_with fail
        go_roundw
        case rel => exact ⟨m, m1, rfl, HB.out, HR.out, by rw [H3.out]; exact HO.out, HL.out⟩
        case measure => have := HM.out; simp [intOf]; omega
    · obtain rfl : i = 8 := by omega
      have i1 : ¬ ((8 : Nat) : Int) < 8 := by omega
      have ho := HO.out
      rw [frq_all] at ho
      have hN : (hlc (lFree l)).length = 8 := by rw [hlc_length, lFree_length]
      have h1c := hlc_one (lFree l)
      obtain ⟨V, hV⟩ : ∃ V, hlc (lFree l) = V := ⟨_, rfl⟩
      have HV := Lib.hid hV
      rw [hV] at ho hN h1c
      have HO2 := Lib.hid (show Blk wr (w.heap.size + 1 + 1) 36 V from ho)
      have HN2 := Lib.hid (show (Try.prog.info? 36).map (·.size) = some V.length by rw [hN]; exact infoArrR)
      have HN3 := Lib.hid (show z8.length = V.length from hN.symm)
      have H1 := Lib.hid h1c
      clear ho hN h1c hV HO HB
      go_wp2_with (first | ((with_reducible refine step_load (o := ⟨some 32, _, _, _, _, _⟩) (x := .tmp 3) ?_ ?_ ?_ HO2.out Try.underlying36 ?_ HN2.out ?_); (rfl); (rfl); (rfl); (rfl)) | ((with_reducible refine step_store (o := ⟨none, _, _, _, _, _⟩) (vs := V) (ty := 36) (x := .tmp 2) (y := .tmp 32) ?_ ?_ ?_ ?_ HR.out HN2.out HN3.out H1.out ?_); (rfl); (rfl); (rfl); (rfl); intro w2 hb2 hg2 hs2))
      refine bodyPost_ret (v := .agg V.toArray) (results_one8 rfl _ rfl hb2 Try.underlying36 rfl HN2.out) rfl ?_
      exact ⟨by rw [HV.out], bel_upd HL.out hg2 (Nat.le_refl _) (by omega)⟩

theorem putok13 : PutOk13 := by
  intro l hl p hp1 hp2 b hb w
  obtain ⟨b0, b1, bl⟩ := alloc2 w (lgc l) z9 65 65
  unfold z9 at b0 b1 bl
  have HN := Lib.hid (show (Try.prog.info? 65).map (·.size) = some (lgc l).length by rw [lgc_length hl]; exact infoLedgL)
  have hz : (Try.prog.info? 65).map (·.size) = some z9.length := infoLedgL
  have HZ := Lib.hid hz
  have HB := Lib.hid b0
  have HR := Lib.hid b1
  have HL := Lib.hid bl
  clear b0 b1 bl hz
  unfold Lgn13
  have hk := may13_calls l hl p
  by_cases hm : lMay l p = true
  · have hpr : (0 ≤ p ∧ p ≤ 7) ∧ lRight l = true := by unfold lMay at hm; simpa using hm
    obtain ⟨hp, hr⟩ := hpr
    rw [hm] at hk
    have HK := Lib.hid hk
    clear hk hm
    have p0 : 0 ≤ p := hp.1
    obtain ⟨P, rfl⟩ := Int.eq_ofNat_of_zero_le p0
    have P8 : P < 8 := by omega
    have i1 : ¬ (P : Int) < 0 := by omega
    have i2 : ¬ (7 : Int) < (P : Int) := by omega
    have i3 : (P : Int) < 8 := by omega
    have hrs : l.held.sum ≤ l.cap := of_decide_eq_true hr
    have hcap := hl.2.1
    have hgl := getD_lt_ok hl P
    have hle := getD_le_sum l.held P
    have hcell := lgc_held hl P8
    have hss := fun v => sum_set (h := l.held) (p := P) (by rw [hl.1]; exact P8) v
    have hset := fun v => lgc_set l P v
    have hmok := fun v hv => set_ok hl P v hv
    have hlen := lgc_length hl
    have ha := fun H hH => add13_calls H b hH hb
    obtain ⟨H, hH⟩ : ∃ H, l.held.getD P 0 = H := ⟨_, rfl⟩
    rw [hH] at hgl hle hss hcell
    have ha := ha H hgl
    unfold aS at ha
    by_cases hok : H + b < 18446744073709551616
    · rw [if_pos hok, decide_eq_true hok] at ha
      obtain ⟨N, hN⟩ : ∃ N, H + b = N := ⟨_, rfl⟩
      obtain ⟨m, hm⟩ : ∃ m : Lg, ⟨l.cap, l.held.set P N⟩ = m := ⟨_, rfl⟩
      have s1 := hss N
      have s2 := hset N
      have s3 := hmok N (by omega)
      have e1 : m.held.sum + H = l.held.sum + N := by rw [← hm]; exact s1
      have e2 : m.cap = l.cap := by rw [← hm]
      rw [hm] at s2 s3
      have HMN := Lib.hid (show (Try.prog.info? 65).map (·.size) = some (lgc m).length by rw [lgc_length s3]; exact infoLedgL)
      have HM1 := Lib.hid (lgc_one m)
      have HMZ := Lib.hid (show z9.length = (lgc m).length by rw [lgc_length s3]; rfl)
      rw [hN] at ha
      have hkm := rightok13 m s3
      by_cases hfit : l.held.sum + b ≤ l.cap
      · have hv : lPut l (P : Int) b = (m, 0) := by
          have h9 : l.held.getD ((P : Int).toNat) 0 = H := hH
          unfold lPut; rw [if_pos ⟨⟨by omega, by omega⟩, hr⟩, if_pos hfit]; rw [h9, hN, ← hm]; rfl
        have hrm : lRight m = true := decide_eq_true (by omega)
        rw [hrm] at hkm
        rw [hv]
        have HC := Lib.hid hcell
        have HS := Lib.hid s2
        clear hcell s2
        have HA := Lib.hid ha
        have HKM := Lib.hid hkm
        clear ha hkm hv hrm hok hfit hss hset  hmok hlen s1 s3 e1 e2 hm hN hgl hle hH hrs hcap hr hp hb p0 hp1 hp2
        go_enter Try.func50, Try.ntmps50
        go_upto_region 1 with fail
        generalize ((w.alloc (.cells (lgc l).toArray 65)).alloc _) = w1 at *
        go_wp2_with ((with_reducible refine step_load_want (o := ⟨some 10, _, _, _, _, _⟩) (x := .tmp 3) ?_ ?_ ?_ HB.out Try.underlying65 ?_ HN.out ?_); (rfl); (rfl); (rfl); (rfl))
        ((with_reducible refine (HK.out w1).mono ?_))
        rintro e w2 ⟨rfl, hb2⟩
        have HB2 := Lib.hid (HB.out.below hb2)
        have HR2 := Lib.hid (HR.out.below hb2)
        have HL2 := Lib.hid (HL.out.trans (hb2.mono HL.out.size))
        clear hb2 HB HR HL
        have c1 : w2.cell? ⟨w.heap.size, 1 + P, none⟩ = some (.int .u64 (H : Int)) := (HB2.out.cell _).trans HC.out
        have f1 := HB2.out.free (1 + P)
        go_wp2_with fail
        ((with_reducible refine (HA.out w2).mono ?_))
        rintro e w3 ⟨rfl, rfl⟩
        go_upto_region 5 with fail
        have B3 := Lib.hid (show Blk (w3.setCell ⟨w.heap.size, 1 + P, none⟩ (.int .u64 (N : Int))) w.heap.size 65 (lgc m) by rw [HS.out]; exact HB2.out.set _ _)
        have R3 := Lib.hid (show Blk (w3.setCell ⟨w.heap.size, 1 + P, none⟩ (.int .u64 (N : Int))) (w.heap.size + 1) 65 z9 from HR2.out.other (p := ⟨w.heap.size, 1 + P, none⟩) (show ¬ w.heap.size = w.heap.size + 1 by omega) _)
        have L3 := Lib.hid (HL2.out.setCell (p := ⟨w.heap.size, 1 + P, none⟩) (show w.heap.size ≤ w.heap.size by omega) (.int .u64 (N : Int)))
        clear c1 f1 HB2 HR2 HL2
        generalize w3.setCell ⟨w.heap.size, 1 + P, none⟩ (.int .u64 (N : Int)) = w4 at *
        go_wp2_with ((with_reducible refine step_load_want (o := ⟨some 31, _, _, _, _, _⟩) (x := .tmp 3) ?_ ?_ ?_ B3.out Try.underlying65 ?_ HMN.out ?_); (rfl); (rfl); (rfl); (rfl))
        ((with_reducible refine (HKM.out w4).mono ?_))
        rintro e w5 ⟨rfl, hb5⟩
        have B5 := Lib.hid (B3.out.below hb5)
        have R5 := Lib.hid (R3.out.below hb5)
        have L5 := Lib.hid (L3.out.trans (hb5.mono L3.out.size))
        clear hb5 B3 R3 L3
        go_wp2_with (first | ((with_reducible refine step_load (o := ⟨some 36, _, _, _, _, _⟩) (x := .tmp 3) ?_ ?_ ?_ B5.out Try.underlying65 ?_ HMN.out ?_); (rfl); (rfl); (rfl); (rfl)) | ((with_reducible refine step_store (o := ⟨none, _, _, _, _, _⟩) (vs := lgc m) (ty := 65) (x := .tmp 6) (y := .tmp 36) ?_ ?_ ?_ ?_ R5.out HMN.out HMZ.out HM1.out ?_); (rfl); (rfl); (rfl); (rfl); intro w6 hb6 hg6 hs6))
        refine bodyPost_ret (v := .tuple #[.agg (lgc m).toArray, .int .i64 0]) (results_two8 rfl _ rfl hb6 Try.underlying65 rfl HMN.out rfl) rfl ?_
        exact ⟨rfl, bel_upd L5.out hg6 (Nat.le_refl _) (by omega)⟩
      · have hv : lPut l (P : Int) b = (lz, 14) := by
          have h9 : l.held.getD ((P : Int).toNat) 0 = H := hH
          unfold lPut; rw [if_pos ⟨⟨by omega, by omega⟩, hr⟩, if_neg hfit]
        have hrm : lRight m = false := decide_eq_false (by omega)
        rw [hrm] at hkm
        rw [hv]
        have HC := Lib.hid hcell
        have HS := Lib.hid s2
        clear hcell s2
        have HA := Lib.hid ha
        have HKM := Lib.hid hkm
        clear ha hkm hv hrm hok hfit hss hset  hmok hlen s1 s3 e1 e2 hm hN hgl hle hH hrs hcap hr hp hb p0 hp1 hp2
        go_enter Try.func50, Try.ntmps50
        go_upto_region 1 with fail
        generalize ((w.alloc (.cells (lgc l).toArray 65)).alloc _) = w1 at *
        go_wp2_with ((with_reducible refine step_load_want (o := ⟨some 10, _, _, _, _, _⟩) (x := .tmp 3) ?_ ?_ ?_ HB.out Try.underlying65 ?_ HN.out ?_); (rfl); (rfl); (rfl); (rfl))
        ((with_reducible refine (HK.out w1).mono ?_))
        rintro e w2 ⟨rfl, hb2⟩
        have HB2 := Lib.hid (HB.out.below hb2)
        have HR2 := Lib.hid (HR.out.below hb2)
        have HL2 := Lib.hid (HL.out.trans (hb2.mono HL.out.size))
        clear hb2 HB HR HL
        have c1 : w2.cell? ⟨w.heap.size, 1 + P, none⟩ = some (.int .u64 (H : Int)) := (HB2.out.cell _).trans HC.out
        have f1 := HB2.out.free (1 + P)
        go_wp2_with fail
        ((with_reducible refine (HA.out w2).mono ?_))
        rintro e w3 ⟨rfl, rfl⟩
        go_upto_region 5 with fail
        have B3 := Lib.hid (show Blk (w3.setCell ⟨w.heap.size, 1 + P, none⟩ (.int .u64 (N : Int))) w.heap.size 65 (lgc m) by rw [HS.out]; exact HB2.out.set _ _)
        have R3 := Lib.hid (show Blk (w3.setCell ⟨w.heap.size, 1 + P, none⟩ (.int .u64 (N : Int))) (w.heap.size + 1) 65 z9 from HR2.out.other (p := ⟨w.heap.size, 1 + P, none⟩) (show ¬ w.heap.size = w.heap.size + 1 by omega) _)
        have L3 := Lib.hid (HL2.out.setCell (p := ⟨w.heap.size, 1 + P, none⟩) (show w.heap.size ≤ w.heap.size by omega) (.int .u64 (N : Int)))
        clear c1 f1 HB2 HR2 HL2
        generalize w3.setCell ⟨w.heap.size, 1 + P, none⟩ (.int .u64 (N : Int)) = w4 at *
        go_wp2_with ((with_reducible refine step_load_want (o := ⟨some 31, _, _, _, _, _⟩) (x := .tmp 3) ?_ ?_ ?_ B3.out Try.underlying65 ?_ HMN.out ?_); (rfl); (rfl); (rfl); (rfl))
        ((with_reducible refine (HKM.out w4).mono ?_))
        rintro e w5 ⟨rfl, hb5⟩
        have B5 := Lib.hid (B3.out.below hb5)
        have R5 := Lib.hid (R3.out.below hb5)
        have L5 := Lib.hid (L3.out.trans (hb5.mono L3.out.size))
        clear hb5 B3 R3 L3
        go_wp2_with ((with_reducible refine step_store (o := ⟨none, _, _, _, _, _⟩) (vs := z9) (ty := 65) (x := .tmp 6) (y := .tmp 35) ?_ ?_ ?_ ?_ R5.out HZ.out rfl z9_one ?_); (rfl); (rfl); (rfl); (rfl); intro w6 hb6 hg6 hs6)
        refine bodyPost_ret (v := .tuple #[.agg z9.toArray, .int .i64 14]) (results_two8 rfl _ rfl hb6 Try.underlying65 rfl HZ.out rfl) rfl ?_
        exact ⟨rfl, bel_upd L5.out hg6 (Nat.le_refl _) (by omega)⟩
    · rw [if_neg hok, decide_eq_false hok] at ha
      have hv : lPut l (P : Int) b = (lz, 14) := by unfold lPut; rw [if_pos ⟨⟨by omega, by omega⟩, hr⟩, if_neg (by omega)]
      rw [hv]
      have HC := Lib.hid hcell
      have HA := Lib.hid ha
      clear ha hcell hv hok hss hset hmok hlen hgl hle hH hrs hcap hr hp hb p0 hp1 hp2
      go_enter Try.func50, Try.ntmps50
      go_upto_region 1 with fail
      generalize ((w.alloc (.cells (lgc l).toArray 65)).alloc _) = w1 at *
      go_wp2_with ((with_reducible refine step_load_want (o := ⟨some 10, _, _, _, _, _⟩) (x := .tmp 3) ?_ ?_ ?_ HB.out Try.underlying65 ?_ HN.out ?_); (rfl); (rfl); (rfl); (rfl))
      ((with_reducible refine (HK.out w1).mono ?_))
      rintro e w2 ⟨rfl, hb2⟩
      have HB2 := Lib.hid (HB.out.below hb2)
      have HR2 := Lib.hid (HR.out.below hb2)
      have HL2 := Lib.hid (HL.out.trans (hb2.mono HL.out.size))
      clear hb2 HB HR HL
      have c1 : w2.cell? ⟨w.heap.size, 1 + P, none⟩ = some (.int .u64 (H : Int)) := (HB2.out.cell _).trans HC.out
      have f1 := HB2.out.free (1 + P)
      go_wp2_with fail
      ((with_reducible refine (HA.out w2).mono ?_))
      rintro e w3 ⟨rfl, rfl⟩
      go_upto_region 5 with fail
      have R3 := Lib.hid (show Blk (w3.setCell ⟨w.heap.size, 1 + P, none⟩ (.int .u64 0)) (w.heap.size + 1) 65 z9 from HR2.out.other (p := ⟨w.heap.size, 1 + P, none⟩) (show ¬ w.heap.size = w.heap.size + 1 by omega) _)
      have L3 := Lib.hid (HL2.out.setCell (p := ⟨w.heap.size, 1 + P, none⟩) (show w.heap.size ≤ w.heap.size by omega) (.int .u64 0))
      clear c1 f1 HB2 HR2 HL2
      generalize w3.setCell ⟨w.heap.size, 1 + P, none⟩ (.int .u64 0) = w4 at *
      go_wp2_with ((with_reducible refine step_store (o := ⟨none, _, _, _, _, _⟩) (vs := z9) (ty := 65) (x := .tmp 6) (y := .tmp 35) ?_ ?_ ?_ ?_ R3.out HZ.out rfl z9_one ?_); (rfl); (rfl); (rfl); (rfl); intro w6 hb6 hg6 hs6)
      refine bodyPost_ret (v := .tuple #[.agg z9.toArray, .int .i64 14]) (results_two8 rfl _ rfl hb6 Try.underlying65 rfl HZ.out rfl) rfl ?_
      exact ⟨rfl, bel_upd L3.out hg6 (Nat.le_refl _) (by omega)⟩
  · have hr2 : lMay l p = false := by simpa using hm
    rw [hr2] at hk
    have HK := Lib.hid hk
    clear hk
    have hv : lPut l p b = (lz, 2) := by unfold lPut; rw [if_neg (fun h => hm (by unfold lMay; simpa using h))]
    rw [hv]
    clear hv hm hr2
    go_enter Try.func50, Try.ntmps50
    go_upto_region 1 with fail
    generalize ((w.alloc (.cells (lgc l).toArray 65)).alloc _) = w1 at *
    go_wp2_with ((with_reducible refine step_load_want (o := ⟨some 10, _, _, _, _, _⟩) (x := .tmp 3) ?_ ?_ ?_ HB.out Try.underlying65 ?_ HN.out ?_); (rfl); (rfl); (rfl); (rfl))
    ((with_reducible refine (HK.out w1).mono ?_))
    rintro e w2 ⟨rfl, hb2⟩
    have HR2 := Lib.hid (HR.out.below hb2)
    have HL2 := Lib.hid (HL.out.trans (hb2.mono HL.out.size))
    clear hb2
    go_wp2_with ((with_reducible refine step_store (o := ⟨none, _, _, _, _, _⟩) (vs := z9) (ty := 65) (x := .tmp 6) (y := .tmp 14) ?_ ?_ ?_ ?_ HR2.out HZ.out rfl z9_one ?_); (rfl); (rfl); (rfl); (rfl); intro w3 hb3 hg3 hs3)
    refine bodyPost_ret (v := .tuple #[.agg z9.toArray, .int .i64 2]) (results_two8 rfl _ rfl hb3 Try.underlying65 rfl HZ.out rfl) rfl ?_
    exact ⟨rfl, bel_upd HL2.out hg3 (Nat.le_refl _) (by omega)⟩

end Go.Proofs.Ytmffmoflelnmoaa
