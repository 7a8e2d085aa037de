/-
  The document's Same (viaductref15). Condition: eight numbers of 64 bits each; fewer than 2^30 adverts.
-/
import Derived.Test.YtmfmjdkeoiebpaaTedC
import Derived.Test.YtmfmjdkeoiebpaaEqv
namespace Go.Proofs.Ytmfmjdkeoiebpaa
set_option maxRecDepth 100000
set_option linter.unusedVariables false
open Go.RowKit

theorem seq_load_at15 {P : Program} {ops : Array Oper} {Q : Exit → Act → World → Prop} {S : World → Prop} {i : Nat} {r : List (Nat × Bool)} {a : Act} {w : World} {o : Oper} {x : Operand} {ty : TypeId} {g k : Nat} {vs : List Value} {d : TypeDesc}
    (ho : ops.toList[i]? = some o) (hw : Region.wanted o (yielded ops a.tmps) = true) (hop : o.op = .load ty x) (hx : a.eval x = .pointer (some ⟨g, k, none⟩)) (hb : ∀ W, S W → W.rangeAt g k vs) (hu : P.underlying ty = some d) (hd : d.isRow = true) (hi : (P.info? ty).map (·.size) = some vs.length)
    (h : wpSeq P ops Q S r (a.put o.dst (.agg vs.toArray)) w) : wpSeq P ops Q S ((i, true) :: r) a w :=
  ⟨o, _, by rw [← Array.getElem?_toList]; exact ho, yieldsIf_load_mid hw ty x hop g k hx vs d hb hu hd hi, h⟩
/-- Two adverts are compared. -/
theorem eq_ad15 {x y : Ad} (hx : AdOk x) (hy : AdOk y) (w : World) : (binOp .eql 42 (.agg (adc x).toArray) (.agg (adc y).toArray)).run Try.prog w = .ok (.bool (decide (x = y))) w ∧
    (binOp .neq 42 (.agg (adc x).toArray) (.agg (adc y).toArray)).run Try.prog w = .ok (.bool (!decide (x = y))) w :=
  eql_E (xs := adc x) (ys := adc y) (la := adc x) (lb := adc y) (m := 5) (D := 5) (by decide) (by kernel_rfl) (by rfl) (by rfl) (by rfl) (by rfl) w (decide (x = y)) (by rw [decide_eq_true_eq]; exact ⟨fun h => by rw [h], fun h => adc_inj hx hy h⟩)
def Yes15 (d : Bool) (w : World) (e : Ending) (w' : World) : Prop := e = .returned (.bool d) ∧ Below w.heap.size w w'
/-- An advert's cells in a row, whole. -/
theorem range15 {B n i : Nat} {w : World} {a : Option Addr} {l : List Ad} (h : Row adc w B a n l) (hi : i < n) : ∃ b o x, a = some ⟨b, o, none⟩ ∧ l[i]? = some x ∧ b < B ∧ ∀ W, Below B w W → W.rangeAt b (o + i * 15) (adc x) := by
  obtain ⟨b, o, x, e, hx, hb, hc⟩ := cells15 adc_length h hi
  exact ⟨b, o, x, e, hx, hb, fun W hW j v hv => hc W hW j v hv⟩
set_option maxHeartbeats 3200000 in
theorem rsame15_calls (a a2 : Option Addr) (n n2 c c2 : Nat) (l m : List Ad) (ho : ∀ x ∈ l, AdOk x) (ho2 : ∀ x ∈ m, AdOk x) (w : World) (hr : Row adc w w.heap.size a n l) (hr2 : Row adc w w.heap.size a2 n2 m) (hn : n ≤ 1073741824) (hn2 : n2 ≤ 1073741824) : Calls Try.prog 18 #[.slice a n c, .slice a2 n2 c2] w (Yes15 (decide (l = m)) w) := by
  have HR := Lib.hid hr
  have HR2 := Lib.hid hr2
  have HO := Lib.hid ho
  have HO2 := Lib.hid ho2
  unfold Yes15
  have HL := Lib.hid (And.intro hr.1 hr2.1)
  clear hr hr2 ho ho2
  go_enter Try.func18, Try.ntmps18
  by_cases hne : n = n2
  · subst hne
    have hne : ((n : Int) != (n : Int)) = false := by simp
    go_wp2_with fail
    go_loopw [5] (fun t W => ∃ i : Nat, i ≤ n ∧ t = .int .i64 (i : Int) ∧ l.take i = m.take i ∧ Below w.heap.size w W) (fun t W => n - (intOf t).toNat)
    case atStart => exact ⟨0, by omega, rfl, rfl, Below.refl _ _⟩
    case round =>
      obtain ⟨i, hi, rfl, heq, hbl⟩ := hrel
      have HBL := Lib.hid hbl
      have HEQ := Lib.hid heq
      clear hbl heq
      by_cases hin : i < n
      · have i1 : (i : Int) < (n : Int) := by omega
        obtain ⟨b, o, x, rfl, hx, hb, hc⟩ := range15 HR.out hin
        obtain ⟨b2, o2, y, rfl, hy, hb2, hc2⟩ := range15 HR2.out hin
        have HX := Lib.hid hx
        have HY := Lib.hid hy
        have HC := Lib.hid (show ∀ W, Below wr.heap.size wr W → W.rangeAt b (o + i * 15) (adc x) from fun W hW => hc W (HBL.out.trans (hW.mono HBL.out.size)))
        have HC2 := Lib.hid (show ∀ W, Below wr.heap.size wr W → W.rangeAt b2 (o2 + i * 15) (adc y) from fun W hW => hc2 W (HBL.out.trans (hW.mono HBL.out.size)))
        obtain ⟨d, hd⟩ : ∃ d, (!decide (x = y)) = d := ⟨_, rfl⟩
        have HNE := Lib.hid (fun W => (eq_ad15 (HO.out x (List.mem_of_getElem? hx)) (HO2.out y (List.mem_of_getElem? hy)) W).2)
        rw [hd] at HNE
        have HD := Lib.hid hd
        have HI := Lib.hid hin
        clear hx hy hb hb2 hc hc2 hin hi hd
        go_wp2_with fail
        refine region_seq (fun W => Below wr.heap.size wr W) [(0, true), (1, true), (2, true), (3, true), (4, true), (5, true), (6, true), (7, true), (8, true)] (by kernel_rfl) (by kernel_rfl) (by kernel_rfl) (by kernel_rfl) (fun _ _ _ _ _ h => h) (Below.refl _ _).drew ?_
        repeat first
          | refine seq_load_at15 rfl (by rfl) rfl rfl HC.out Try.underlying42 rfl infoAdS15 ?_
            simp only [Act.put, List.setIfInBounds_toArray, List.set_cons_zero, List.set_cons_succ]
          | refine seq_load_at15 rfl (by rfl) rfl rfl HC2.out Try.underlying42 rfl infoAdS15 ?_
            simp only [Act.put, List.setIfInBounds_toArray, List.set_cons_zero, List.set_cons_succ]
          | refine seq_neA (xs := adc x) (ys := adc y) (c := d) rfl (by rfl) rfl rfl rfl (by kernel_rfl) HNE.out ?_
            simp only [Act.put, List.setIfInBounds_toArray, List.set_cons_zero, List.set_cons_succ]
          | refine seq_pure (v := ?_) rfl (by rfl) (fun W hW => ?_) ?_
            rotate_left
            · clear hW
              go_simp
              with_reducible rfl
            simp only [Act.put, List.setIfInBounds_toArray, List.set_cons_zero, List.set_cons_succ]
        refine seq_done ?_
        cases d with
        | true =>
          go_wp2_with fail
          go_ret
          refine ⟨?_, HBL.out.drew⟩
          have hxy : x ≠ y := by simpa using HD.out
          have : decide (l = m) = false := by
            rw [decide_eq_false_iff_not]
            intro e
            have h1 := HX.out
            rw [e, HY.out] at h1
            injection h1 with h1
            exact hxy h1.symm
          rw [this]; rfl
        | false =>
          go_wp2_with fail
          go_roundw
          case rel =>
            refine ⟨i + 1, by have := HI.out; omega, by first | rfl | (simp; omega), ?_, HBL.out.drew⟩
            have hxy : x = y := by simpa using HD.out
            rw [take_snoc15 HX.out, take_snoc15 HY.out, HEQ.out, hxy]
          case measure => have := HI.out; simp [intOf]; omega
      · obtain rfl : i = n := by omega
        have i1 : ¬ (i : Int) < (i : Int) := by omega
        clear hin hi
        go_wp2_with fail
        go_ret
        refine ⟨?_, HBL.out⟩
        have := HEQ.out
        rw [List.take_of_length_le (by rw [HL.out.1]; exact Nat.le_refl _), List.take_of_length_le (by rw [HL.out.2]; exact Nat.le_refl _)] at this
        rw [decide_eq_true this]; rfl
  · have hlm : decide (l = m) = false := by
      rw [decide_eq_false_iff_not]
      intro e
      have h1 := HL.out
      rw [e] at h1
      omega
    have HLM := Lib.hid hlm
    have hne2 : ((n : Int) != (n2 : Int)) = true := by
      rw [bne_iff_ne]; omega
    clear hlm hne
    go_wp2_with fail
    go_ret
    exact ⟨by rw [HLM.out]; rfl, Below.refl _ _⟩
end Go.Proofs.Ytmfmjdkeoiebpaa
