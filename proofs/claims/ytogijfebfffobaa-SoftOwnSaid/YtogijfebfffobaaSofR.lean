/-
  The document's answers of layer 18 (viaductref18): Ring, label, tick, May, and what they call. Condition: what comes in reads as a list.
-/
import Derived.Test.YtogijfebfffobaaSofB
namespace Go.Proofs.Ytogijfebfffobaa
set_option maxRecDepth 100000
set_option linter.unusedVariables false
open Go.RowKit

theorem rsmall18_calls (n : Int) (w : World) : Calls Try.prog 40 #[.int .i64 n] w fun e w' => e = .returned (.bool (w18 n 0 65535)) ∧ w' = w := by
  obtain ⟨b, hb⟩ : ∃ b, w18 n 0 65535 = b := ⟨_, rfl⟩
  rw [hb]
  by_cases h1 : 0 ≤ n
  · by_cases h2 : n ≤ 65535
    · obtain rfl : b = true := by rw [← hb]; exact w18_iff.2 ⟨h1, h2⟩
      clear hb
      go_enter Try.func40, Try.ntmps40
      go_wp2_with fail
      go_ret
      exact ⟨rfl, rfl⟩
    · obtain rfl : b = false := by rw [← hb]; unfold w18; rw [decide_eq_false h2, Bool.and_false]
      clear hb
      go_enter Try.func40, Try.ntmps40
      go_wp2_with fail
      go_ret
      exact ⟨rfl, rfl⟩
  · obtain rfl : b = false := by rw [← hb]; unfold w18; rw [decide_eq_false h1, Bool.false_and]
    clear hb
    go_enter Try.func40, Try.ntmps40
    go_wp2_with fail
    go_ret
    exact ⟨rfl, rfl⟩
theorem rbind18_calls (n : Int) (w : World) : Calls Try.prog 58 #[.int .i64 n] w fun e w' => e = .returned (.bool (w18 n 16 1048575)) ∧ w' = w := by
  obtain ⟨b, hb⟩ : ∃ b, w18 n 16 1048575 = b := ⟨_, rfl⟩
  rw [hb]
  by_cases h1 : 16 ≤ n
  · by_cases h2 : n ≤ 1048575
    · obtain rfl : b = true := by rw [← hb]; exact w18_iff.2 ⟨h1, h2⟩
      clear hb
      go_enter Try.func58, Try.ntmps58
      go_wp2_with fail
      go_ret
      exact ⟨rfl, rfl⟩
    · obtain rfl : b = false := by rw [← hb]; unfold w18; rw [decide_eq_false h2, Bool.and_false]
      clear hb
      go_enter Try.func58, Try.ntmps58
      go_wp2_with fail
      go_ret
      exact ⟨rfl, rfl⟩
  · obtain rfl : b = false := by rw [← hb]; unfold w18; rw [decide_eq_false h1, Bool.false_and]
    clear hb
    go_enter Try.func58, Try.ntmps58
    go_wp2_with fail
    go_ret
    exact ⟨rfl, rfl⟩
theorem rtick18_calls (n : Int) (w : World) : Calls Try.prog 44 #[.int .i64 n] w fun e w' => e = .returned (.bool (w18 n 0 1099511627776)) ∧ w' = w := by
  obtain ⟨b, hb⟩ : ∃ b, w18 n 0 1099511627776 = b := ⟨_, rfl⟩
  rw [hb]
  by_cases h1 : 0 ≤ n
  · by_cases h2 : n ≤ 1099511627776
    · obtain rfl : b = true := by rw [← hb]; exact w18_iff.2 ⟨h1, h2⟩
      clear hb
      go_enter Try.func44, Try.ntmps44
      go_wp2_with fail
      go_ret
      exact ⟨rfl, rfl⟩
    · obtain rfl : b = false := by rw [← hb]; unfold w18; rw [decide_eq_false h2, Bool.and_false]
      clear hb
      go_enter Try.func44, Try.ntmps44
      go_wp2_with fail
      go_ret
      exact ⟨rfl, rfl⟩
  · obtain rfl : b = false := by rw [← hb]; unfold w18; rw [decide_eq_false h1, Bool.false_and]
    clear hb
    go_enter Try.func44, Try.ntmps44
    go_wp2_with fail
    go_ret
    exact ⟨rfl, rfl⟩
theorem rnode18_calls (n : Int) (w : World) : Calls Try.prog 62 #[.int .i64 n] w fun e w' => e = .returned (.bool (w18 n 0 15)) ∧ w' = w := by
  obtain ⟨b, hb⟩ : ∃ b, w18 n 0 15 = b := ⟨_, rfl⟩
  rw [hb]
  by_cases h1 : 0 ≤ n
  · by_cases h2 : n ≤ 15
    · obtain rfl : b = true := by rw [← hb]; exact w18_iff.2 ⟨h1, h2⟩
      have h3 : n < 16 := by omega
      clear hb
      go_enter Try.func62, Try.ntmps62
      go_wp2_with fail
      go_ret
      exact ⟨rfl, rfl⟩
    · obtain rfl : b = false := by rw [← hb]; unfold w18; rw [decide_eq_false h2, Bool.and_false]
      have h3 : ¬ n < 16 := by omega
      clear hb
      go_enter Try.func62, Try.ntmps62
      go_wp2_with fail
      go_ret
      exact ⟨rfl, rfl⟩
  · obtain rfl : b = false := by rw [← hb]; unfold w18; rw [decide_eq_false h1, Bool.false_and]
    clear hb
    go_enter Try.func62, Try.ntmps62
    go_wp2_with fail
    go_ret
    exact ⟨rfl, rfl⟩
theorem rlabel18_calls (n : Int) (w : World) : Calls Try.prog 43 #[.int .i64 n] w fun e w' => e = .returned (.bool (lab18 n)) ∧ w' = w := by
  have HW := Lib.hid (rbind18_calls n w)
  obtain ⟨b, hb⟩ : ∃ b, lab18 n = b := ⟨_, rfl⟩
  rw [hb]
  have HB := Lib.hid hb
  clear hb
  by_cases h0 : n = 0
  · subst h0
    have : b = true := HB.out.symm
    subst this
    have q : ((0 : Int) == 0) = true := by simp
    go_enter Try.func43, Try.ntmps43
    go_wp2_with fail
    go_ret
    exact ⟨rfl, rfl⟩
  · have q0 : (n == 0) = false := by simp [h0]
    by_cases h3 : n = 3
    · subst h3
      have : b = true := HB.out.symm
      subst this
      have q : ((3 : Int) == 3) = true := by simp
      clear h0
      go_enter Try.func43, Try.ntmps43
      go_wp2_with fail
      go_ret
      exact ⟨rfl, rfl⟩
    · have q1 : (n == 3) = false := by simp [h3]
      have hv : w18 n 16 1048575 = b := by rw [← HB.out]; unfold lab18; rw [q0, q1]; rfl
      rw [hv] at HW
      clear h0 h3 hv
      go_enter Try.func43, Try.ntmps43
      go_wp2_with fail
      ((with_reducible refine HW.out.mono ?_))
      rintro e w2 ⟨rfl, rfl⟩
      go_wp2_with fail
      go_ret
      exact ⟨rfl, rfl⟩
theorem mem_snoc18 {l : List Int} {i : Nat} {x y : Int} (hx : l[i]? = some x) : y ∈ l.take (i + 1) ↔ y ∈ l.take i ∨ y = x := by
  rw [List.take_add_one, hx]; simp
theorem rhas18_calls (a : Option Addr) (n c : Nat) (l : List Int) (x : Int) (w : World) (h : Row ei w w.heap.size a n l) (hn : n ≤ maxLen) : Calls Try.prog 57 #[.slice a n c, .int .i64 x] w fun e w' => e = .returned (.bool (decide (x ∈ l))) ∧ w' = w := by
  unfold maxLen at hn
  have HR := Lib.hid h
  have HN := Lib.hid hn
  clear h
  go_enter Try.func57, Try.ntmps57
  go_wp2_with fail
  go_loopw [5] (fun u W => ∃ i : Nat, i ≤ n ∧ u = .int .i64 (i : Int) ∧ Hid (x ∉ l.take i) ∧ W = w) (fun u W => n - (intOf u).toNat)
  case atStart => exact ⟨0, Nat.zero_le _, rfl, Lib.hid (by simp), rfl⟩
  case round =>
    obtain ⟨i, hi, rfl, HM, rfl⟩ := hrel
    by_cases hin : i < n
    · have i1 : (i : Int) < (n : Int) := by omega
      obtain ⟨b, o, y, rfl, hy, hb, hc⟩ := row_at18 HR.out hin
      have z0 : wr.cell? ⟨b, o + i, none⟩ = some (.int .i64 y) := hc wr (Below.refl _ _)
      have HY := Lib.hid hy
      have HI := Lib.hid hin
      have i3 : IntKind.i64.wrap ((i : Int) + 1) = ((i + 1 : Nat) : Int) := by rw [IntWalk.i64_in _ (by have := HI.out; omega)]; omega
      clear hy hb hc hin hi
      by_cases hyx : y = x
      · have hd : decide (x ∈ l) = true := decide_eq_true (by rw [← hyx]; exact List.mem_of_getElem? HY.out)
        have HD := Lib.hid hd
        have q0 : (y == x) = true := by simp [hyx]
        clear hd hyx
        go_wp2_with fail
        go_ret
        exact ⟨by rw [HD.out]; rfl, rfl⟩
      · have HM2 := Lib.hid (show x ∉ l.take (i + 1) from fun h => by rcases (mem_snoc18 HY.out).1 h with h | h; exact HM.out h; exact hyx h.symm)
        have q0 : (y == x) = false := by simp [hyx]
        clear hyx
        go_wp2_with fail
        go_roundw
        case rel => exact ⟨i + 1, HI.out, by first | rfl | (simp; omega), HM2, by first | rfl | trivial⟩
        case measure => have := HI.out; simp [intOf]; omega
    · obtain rfl : i = n := by omega
      have i1 : ¬ (i : Int) < (i : Int) := by omega
      have hm := HM.out
      rw [List.take_of_length_le (by rw [HR.out.1]; exact Nat.le_refl _)] at hm
      have HF := Lib.hid (show decide (x ∈ l) = false from decide_eq_false hm)
      clear hin hi hm
      go_wp2_with fail
      go_ret
      exact ⟨by rw [HF.out]; rfl, rfl⟩
theorem rnodes18_calls (a : Option Addr) (n c : Nat) (l : List Int) (w : World) (h : Row ei w w.heap.size a n l) (hn : n ≤ maxLen) : Calls Try.prog 56 #[.slice a n c] w fun e w' => e = .returned (.bool (decide (n ≤ 16) && l.all nod18)) ∧ w' = w := by
  unfold maxLen at hn
  have HR := Lib.hid h
  have HN := Lib.hid hn
  clear h
  by_cases hb : n ≤ 16
  · rw [decide_eq_true hb, Bool.true_and]
    have hb2 : ¬ (16 : Int) < (n : Int) := by omega
    obtain ⟨R, hR⟩ : ∃ R, l.all nod18 = R := ⟨_, rfl⟩
    rw [hR]
    have HRR := Lib.hid hR
    clear hR
    go_enter Try.func56, Try.ntmps56
    go_wp2_with fail
    clear hb2
    go_loopw [3] (fun u W => ∃ i : Nat, i ≤ n ∧ u = .int .i64 (i : Int) ∧ Hid ((l.take i).all nod18 = true) ∧ W = w) (fun u W => n - (intOf u).toNat)
    case atStart => exact ⟨0, Nat.zero_le _, rfl, Lib.hid rfl, rfl⟩
    case round =>
      obtain ⟨i, hi, rfl, HM, rfl⟩ := hrel
      by_cases hin : i < n
      · have i1 : (i : Int) < (n : Int) := by omega
        obtain ⟨b, o, y, rfl, hy, hbb, hc⟩ := row_at18 HR.out hin
        have z0 : wr.cell? ⟨b, o + i, none⟩ = some (.int .i64 y) := hc wr (Below.refl _ _)
        have HY := Lib.hid hy
        have HI := Lib.hid hin
        have i3 : IntKind.i64.wrap ((i : Int) + 1) = ((i + 1 : Nat) : Int) := by rw [IntWalk.i64_in _ (by have := HI.out; omega)]; omega
        have HC := Lib.hid (rnode18_calls y)
        clear hy hbb hc hin hi
        go_wp2_with fail
        ((with_reducible refine (HC.out _).mono ?_))
        rintro e w2 ⟨rfl, rfl⟩
        cases hv : w18 y 0 15 with
        | false =>
          have hd : R = false := by
            rw [← HRR.out]
            cases ha : l.all nod18 with
            | false => rfl
            | true =>
              have := List.all_eq_true.1 ha y (List.mem_of_getElem? HY.out)
              unfold nod18 at this
              rw [hv] at this; cases this
          subst hd
          clear hv
          go_wp2_with fail
          go_ret
          exact ⟨rfl, rfl⟩
        | true =>
          have HM2 := Lib.hid (show (l.take (i + 1)).all nod18 = true by
            rw [List.take_add_one, HY.out, List.all_append, HM.out]
            simp [nod18, hv])
          clear hv
          go_wp2_with fail
          go_roundw
          case rel => exact ⟨i + 1, HI.out, by first | rfl | (simp; omega), HM2, by first | rfl | trivial⟩
          case measure => have := HI.out; simp [intOf]; omega
      · obtain rfl : i = n := by omega
        have i1 : ¬ (i : Int) < (i : Int) := by omega
        have hm := HM.out
        rw [List.take_of_length_le (by rw [HR.out.1]; exact Nat.le_refl _), HRR.out] at hm
        subst hm
        clear hin hi
        go_wp2_with fail
        go_ret
        exact ⟨rfl, rfl⟩
  · rw [decide_eq_false hb, Bool.false_and]
    have hb2 : (16 : Int) < (n : Int) := by omega
    clear hb
    go_enter Try.func56, Try.ntmps56
    go_wp2_with fail
    go_ret
    exact ⟨rfl, rfl⟩
/-- A ring, as the document says it. -/
def ring18 (l : List Int) : Bool := decide (2 ≤ l.length) && ((decide (l.length ≤ 16) && l.all nod18) && decide l.Nodup)
theorem nodup_snoc18 {l : List Int} {i : Nat} {x : Int} (hx : l[i]? = some x) : (l.take (i + 1)).Nodup ↔ (l.take i).Nodup ∧ x ∉ l.take i := by
  rw [List.take_add_one, hx]
  simp only [Option.toList, List.nodup_append, List.nodup_cons, List.not_mem_nil, not_false_eq_true, List.nodup_nil, and_self, true_and, List.mem_singleton, forall_eq]
  constructor
  · rintro ⟨h1, h2⟩; exact ⟨h1, fun h => h2 x h rfl⟩
  · rintro ⟨h1, h2⟩; exact ⟨h1, fun a ha e => h2 (e ▸ ha)⟩
theorem sizeInt18 (w : World) : (sizeOf 3).run Try.prog w = .ok 1 w := size_of14 infoInt w
set_option maxHeartbeats 1600000 in
theorem rring18_calls (a : Option Addr) (n c : Nat) (l : List Int) (w : World) (h : Row ei w w.heap.size a n l) (hn : n ≤ maxLen) (hc : n ≤ c) : Calls Try.prog 42 #[.slice a n c] w (Yes14 (ring18 l) w) := by
  have hnn := hn
  unfold maxLen at hnn
  unfold Yes14
  have HR := Lib.hid h
  have HN := Lib.hid hnn
  have HCC := Lib.hid hc
  obtain ⟨R, hR⟩ : ∃ R, ring18 l = R := ⟨_, rfl⟩
  rw [hR]
  unfold ring18 at hR
  rw [h.1] at hR
  have HRR := Lib.hid hR
  have HC := Lib.hid (rnodes18_calls a n c l w h hn)
  clear h hR hn hc
  by_cases h2 : 2 ≤ n
  · have b1 : ¬ (n : Int) < 2 := by omega
    rw [decide_eq_true h2, Bool.true_and] at HRR
    clear h2
    go_enter Try.func42, Try.ntmps42
    go_wp2_with fail
    ((with_reducible refine HC.out.mono ?_))
    rintro e w2 ⟨rfl, rfl⟩
    cases hv : (decide (n ≤ 16) && l.all nod18) with
    | false =>
      rw [hv, Bool.false_and] at HRR
      obtain rfl : R = false := HRR.out.symm
      clear hv
      go_wp2_with fail
      go_ret
      exact ⟨rfl, Below.refl _ _⟩
    | true =>
      rw [hv, Bool.true_and] at HRR
      clear hv HC b1
      go_wp2_with fail
      go_loopw [3] (fun u W => ∃ i : Nat, i ≤ n ∧ u = .int .i64 (i : Int) ∧ Hid ((l.take i).Nodup) ∧ Hid (Below w2.heap.size w2 W)) (fun u W => n - (intOf u).toNat)
      case atStart => exact ⟨0, Nat.zero_le _, rfl, Lib.hid (by simp), Lib.hid (Below.refl _ _)⟩
      case round =>
        obtain ⟨i, hi, rfl, HM, HB⟩ := hrel
        by_cases hin : i < n
        · have i1 : (i : Int) < (n : Int) := by omega
          obtain ⟨b, o, y, rfl, hy, hbb, hc⟩ := row_at18 HR.out hin
          have HY := Lib.hid hy
          have HZ := Lib.hid (fun W (hW : Below wr.heap.size wr W) => hc W (HB.out.trans (hW.mono HB.out.size)))
          have HI := Lib.hid hin
          have i3 : IntKind.i64.wrap ((i : Int) + 1) = ((i + 1 : Nat) : Int) := by rw [IntWalk.i64_in _ (by have := HI.out; have := HN.out; omega)]; omega
          have i4 : (i : Int) ≤ (c : Int) := by have := HI.out; have := HCC.out; omega
          have hsl := fun W => slice_high (P := Try.prog) (a := some ⟨b, o, none⟩) Try.underlying35 sizeInt18 (.inr ⟨b, o, rfl⟩) n c i (by have := HI.out; have := HCC.out; omega) W
          have HHC := Lib.hid (fun W (hW : Below wr.heap.size wr W) => rhas18_calls (some ⟨b, o, none⟩) i c (l.take i) y W (((HR.out.below (HB.out.trans (hW.mono HB.out.size))).more (Nat.le_trans HB.out.size hW.size)).head ei_length i (by have := HI.out; omega)) (by have := HI.out; have := HN.out; unfold maxLen; omega))
          have HS0 := Lib.hid (show Below wr.heap.size wr wr.drew from (Below.refl _ _).drew)
          clear hy hbb hc hin hi
          go_wp2_with fail
          refine region_seq (fun W => Below wr.heap.size wr W) [(0, true), (1, true), (2, true), (3, true), (4, true), (5, true), (6, true), (7, false)] (by kernel_rfl) (by kernel_rfl) (by kernel_rfl) (by kernel_rfl) (fun _ _ _ _ _ h => h) HS0.out ?_
          repeat first
            | refine seq_pure (v := ?_) rfl (by rfl) (fun W hW => ?_) ?_
              rotate_left
              · have z0 : W.cell? ⟨b, o + i, none⟩ = some (.int .i64 y) := HZ.out W hW
                clear hW
                go_simp
                with_reducible rfl
              simp only [Act.put, List.setIfInBounds_toArray, List.set_cons_zero, List.set_cons_succ]
            | refine seq_skip rfl (by rfl) ?_
              simp only [Act.put, List.setIfInBounds_toArray, List.set_cons_zero, List.set_cons_succ]
          refine seq_make rfl (by rfl) (fun K hK => ?_)
          go_simp
          ((with_reducible refine (HHC.out _ HS0.out).mono ?_))
          rintro e w8 ⟨rfl, rfl⟩
          go_simp
          refine hK _ _ _ (fun _ h => h) HS0.out ?_
          clear hK K
          refine seq_done ?_
          have HB2 := Lib.hid (show Below w2.heap.size w2 wr.drew from HB.out.drew)
          obtain ⟨d, hd⟩ : ∃ d, decide (y ∈ l.take i) = d := ⟨_, rfl⟩
          have HD := Lib.hid hd
          rw [hd]
          clear hd HHC hsl i4
          cases d with
          | true =>
            have hr : R = false := by
              rw [← HRR.out]
              refine decide_eq_false fun h => ?_
              have h1 : (l.take (i + 1)).Nodup := List.Nodup.sublist (List.take_sublist _ _) h
              exact ((nodup_snoc18 HY.out).1 h1).2 (of_decide_eq_true HD.out)
            subst hr
            go_wp2_with fail
            go_ret
            exact ⟨rfl, HB2.out⟩
          | false =>
            have HM2 := Lib.hid (show (l.take (i + 1)).Nodup from (nodup_snoc18 HY.out).2 ⟨HM.out, of_decide_eq_false HD.out⟩)
            go_wp2_with fail
            go_roundw
            case rel => exact ⟨i + 1, HI.out, by first | rfl | (simp; omega), HM2, HB2⟩
            case measure => have := HI.out; simp [intOf]; omega
        · obtain rfl : i = n := by omega
          have i1 : ¬ (i : Int) < (i : Int) := by omega
          have hm := HM.out
          rw [List.take_of_length_le (by rw [HR.out.1]; exact Nat.le_refl _)] at hm
          have hr : R = true := by rw [← HRR.out]; exact decide_eq_true hm
          subst hr
          clear hin hi hm
          go_wp2_with fail
          go_ret
          exact ⟨rfl, HB.out⟩
  · have b1 : (n : Int) < 2 := by omega
    rw [decide_eq_false h2, Bool.false_and] at HRR
    obtain rfl : R = false := HRR.out.symm
    clear h2
    go_enter Try.func42, Try.ntmps42
    go_wp2_with fail
    go_ret
    exact ⟨rfl, Below.refl _ _⟩
/-- Which states may be, in the document's order. -/
def rmay18 (s : Sp) : Bool :=
  w18 s.k.tun 0 65535 && (w18 s.k.lsp 0 65535 && (wRight s.w && (ring18 s.rt && (decide (0 ≤ s.ix) && (decide (s.ix < (s.rt.length : Int)) && (decide (s.rt.head? = some s.k.head) && (decide (s.rt.getLast? = some s.k.tail) &&
    (lab18 s.ib && (lab18 s.ob && (w18 s.un 0 1099511627776 && (w18 s.kp 0 1099511627776 && w18 s.sn 0 1099511627776)))))))))))
theorem rmay18_eq (s : Sp) : rmay18 s = may18 s := by
  have e1 : w18 (s.rt.length : Int) 2 16 = (decide (2 ≤ s.rt.length) && decide (s.rt.length ≤ 16)) := by
    unfold w18
    rw [show decide ((2 : Int) ≤ (s.rt.length : Int)) = decide (2 ≤ s.rt.length) from decide_eq_decide.2 (by omega), show decide ((s.rt.length : Int) ≤ 16) = decide (s.rt.length ≤ 16) from decide_eq_decide.2 (by omega)]
  have e2 : w18 s.ix 0 ((s.rt.length : Int) - 1) = (decide (0 ≤ s.ix) && decide (s.ix < (s.rt.length : Int))) := by
    unfold w18
    rw [show decide (s.ix ≤ (s.rt.length : Int) - 1) = decide (s.ix < (s.rt.length : Int)) from decide_eq_decide.2 (by omega)]
  unfold rmay18 may18 lead18 ring18 dif18
  rw [e1, e2]
  generalize w18 s.k.tun 0 65535 = b1, w18 s.k.lsp 0 65535 = b2, wRight s.w = b3, decide (2 ≤ s.rt.length) = b4, decide (s.rt.length ≤ 16) = b5, decide (0 ≤ s.ix) = b6, decide (s.ix < (s.rt.length : Int)) = b7, decide (s.rt.head? = some s.k.head) = b8, decide (s.rt.getLast? = some s.k.tail) = b9, s.rt.all nod18 = c1, decide s.rt.Nodup = c2, lab18 s.ib = c3, lab18 s.ob = c4, w18 s.un 0 1099511627776 = c5, w18 s.kp 0 1099511627776 = c6, w18 s.sn 0 1099511627776 = c7
  ac_rfl
set_option maxHeartbeats 6400000 in
theorem rmay18_calls (s : Ss) (w : World) (h : Row ei w w.heap.size s.a s.n s.p.rt) (hn : s.n ≤ maxLen) (hc : s.n ≤ s.c) :
    Calls Try.prog 15 #[.agg (ssc s).toArray] w (Yes14 (may18 s.p) w) := by
  rw [← rmay18_eq]
  unfold maxLen at hn
  unfold Yes14
  have bz := bel_new (Below.refl w.heap.size w) (.cells (ssc s).toArray 37)
  have B1 := Lib.hid (Blk.new w 37 (ssc s))
  have HL := Lib.hid bz
  have HR := Lib.hid ((h.below bz).more bz.size)
  have HRL := Lib.hid h.1
  obtain ⟨R, hR⟩ : ∃ R, rmay18 s.p = R := ⟨_, rfl⟩
  rw [hR]
  unfold rmay18 at hR
  rw [h.1] at hR
  have HRR := Lib.hid hR
  have HC := Lib.hid (fun W (hW : Row ei W W.heap.size s.a s.n s.p.rt) => rring18_calls s.a s.n s.c s.p.rt W hW (by unfold maxLen; omega) hc)
  have HN := Lib.hid hn
  clear h bz hR hn hc
  go_enter Try.func15, Try.ntmps15
  go_upto_region 1 with fail
  generalize (w.alloc (.cells (ssc s).toArray 37)) = w1 at *
  have x1 : w1.cell? ⟨w.heap.size, 1, none⟩ = some (.int .i64 s.p.k.tun) := B1.out.cell 1
  go_wp2_with fail
  ((with_reducible refine (rsmall18_calls s.p.k.tun _).mono ?_))
  rintro e w9 ⟨rfl, rfl⟩
  cases hv : w18 s.p.k.tun 0 65535 with
  | false =>
    rw [hv] at HRR
    clear hv
    go_wp2_with fail
    go_ret
    rw [← HRR.out]
    first | exact ⟨rfl, HL.out⟩ | exact ⟨by simp, HL.out⟩
  | true =>
    rw [hv, Bool.true_and] at HRR
    clear hv
    have x3 : w9.cell? ⟨w.heap.size, 3, none⟩ = some (.int .i64 s.p.k.lsp) := B1.out.cell 3
    go_wp2_with fail
    ((with_reducible refine (rsmall18_calls s.p.k.lsp _).mono ?_))
    rintro e w9 ⟨rfl, rfl⟩
    cases hv : w18 s.p.k.lsp 0 65535 with
    | false =>
      rw [hv] at HRR
      clear hv
      go_wp2_with fail
      go_ret
      rw [← HRR.out]
      first | exact ⟨rfl, HL.out⟩ | exact ⟨by simp, HL.out⟩
    | true =>
      rw [hv, Bool.true_and] at HRR
      clear hv
      have x4 : w9.cell? ⟨w.heap.size, 4, none⟩ = some (.int .u64 (s.p.w.bw : Int)) := B1.out.cell 4
      have x5 : w9.cell? ⟨w.heap.size, 5, none⟩ = some (.int .i64 s.p.w.su) := B1.out.cell 5
      have x6 : w9.cell? ⟨w.heap.size, 6, none⟩ = some (.int .i64 s.p.w.ho) := B1.out.cell 6
      have x7 : w9.cell? ⟨w.heap.size, 7, none⟩ = some (.int .u32 (s.p.w.an : Int)) := B1.out.cell 7
      have x8 : w9.cell? ⟨w.heap.size, 8, none⟩ = some (.int .u32 (s.p.w.al : Int)) := B1.out.cell 8
      have x9 : w9.cell? ⟨w.heap.size, 9, none⟩ = some (.int .u32 (s.p.w.no : Int)) := B1.out.cell 9
      have hc := rright12_calls s.p.w w9
      unfold Yes12 at hc
      have HRI := Lib.hid hc
      clear hc
      go_wp2_with fail
      ((with_reducible refine HRI.out.mono ?_))
      rintro e v2 ⟨rfl, hb⟩
      have B2 := Lib.hid (B1.out.below hb)
      have L2 := Lib.hid (HL.out.trans (hb.mono HL.out.size))
      have R2 := Lib.hid ((HR.out.below hb).more hb.size)
      clear hb B1 HL HR x1 x3 x4 x5 x6 x7 x8 x9
      cases hv : wRight s.p.w with
      | false =>
        rw [hv] at HRR
        clear hv
        go_wp2_with fail
        go_ret
        rw [← HRR.out]
        first | exact ⟨rfl, L2.out⟩ | exact ⟨by simp, L2.out⟩
      | true =>
        rw [hv, Bool.true_and] at HRR
        clear hv
        have hc := HC.out v2 R2.out
        unfold Yes14 at hc
        have HRI := Lib.hid hc
        clear hc
        have x10 : v2.cell? ⟨w.heap.size, 10, none⟩ = some (.slice s.a s.n s.c) := B2.out.cell 10
        go_wp2_with fail
        ((with_reducible refine HRI.out.mono ?_))
        rintro e v3 ⟨rfl, hb⟩
        have B3 := Lib.hid (B2.out.below hb)
        have L3 := Lib.hid (L2.out.trans (hb.mono L2.out.size))
        have R3 := Lib.hid ((R2.out.below hb).more hb.size)
        clear hb B2 L2 R2 x10
        cases hv : ring18 s.p.rt with
        | false =>
          rw [hv] at HRR
          clear hv
          go_wp2_with fail
          go_ret
          rw [← HRR.out]
          first | exact ⟨rfl, L3.out⟩ | exact ⟨by simp, L3.out⟩
        | true =>
          rw [hv, Bool.true_and] at HRR
          have hrg : 2 ≤ s.n := by
            unfold ring18 at hv
            rw [Bool.and_eq_true, HRL.out] at hv
            exact of_decide_eq_true hv.1
          have HRG := Lib.hid hrg
          clear hv hrg
          have x10 : v3.cell? ⟨w.heap.size, 10, none⟩ = some (.slice s.a s.n s.c) := B3.out.cell 10
          have x11 : v3.cell? ⟨w.heap.size, 11, none⟩ = some (.int .i64 s.p.ix) := B3.out.cell 11
          by_cases hx0 : 0 ≤ s.p.ix
          · rw [decide_eq_true hx0, Bool.true_and] at HRR
            have hx1 : ¬ s.p.ix < 0 := by omega
            by_cases hx2 : s.p.ix < (s.n : Int)
            · rw [decide_eq_true hx2, Bool.true_and] at HRR
              have hx3 : ¬ (s.n : Int) ≤ s.p.ix := by omega
              have hn0 : 0 < s.n := by have := HRG.out; omega
              obtain ⟨m, hm⟩ : ∃ m, m + 1 = s.n := ⟨s.n - 1, by omega⟩
              obtain ⟨b, o, y, ha, hy, hbb, hc0⟩ := row_at18 R3.out hn0
              obtain ⟨b', o', z, ha', hz, _, hcm⟩ := row_at18 R3.out (show m < s.n by omega)
              rw [ha] at ha'
              injection ha' with ha'
              injection ha' with e2 e3 _
              subst e2; subst e3
              have HCE := Lib.hid (And.intro (show ∀ W, Below v3.heap.size v3 W → W.cell? ⟨b, o, none⟩ = some (.int .i64 y) from fun W hW => hc0 W hW) (show ∀ W, Below v3.heap.size v3 W → W.cell? ⟨b, o + m, none⟩ = some (.int .i64 z) from fun W hW => hcm W hW))
              have hh : s.p.rt.head? = some y := by rw [List.head?_eq_getElem?]; exact hy
              have hl : s.p.rt.getLast? = some z := by rw [List.getLast?_eq_getElem?, HRL.out, ← hm]; exact hz
              rw [hh, hl] at HRR
              simp only [Option.some.injEq] at HRR
              have e2 : IntKind.i64.wrap ((s.n : Int) - 1) = (m : Int) := by rw [IntWalk.i64_in _ (by have := HN.out; omega)]; omega
              have d0 : (0 : Int) < (s.n : Int) := by omega
              have d1 : (m : Int) < (s.n : Int) := by omega
              have d5 : (s.n : Int) ≠ 0 := by omega
              have HA := Lib.hid ha
              clear HC
              obtain ⟨v4, h4⟩ : ∃ v, decide (y = s.p.k.head) = v := ⟨_, rfl⟩
              obtain ⟨v5, h5⟩ : ∃ v, decide (z = s.p.k.tail) = v := ⟨_, rfl⟩
              rw [h4, h5] at HRR
              have q4 : (y != s.p.k.head) = !v4 := by rw [← h4]; rfl
              have q5 : (z != s.p.k.tail) = !v5 := by rw [← h5]; rfl
              have HS0 := Lib.hid (show Below v3.heap.size v3 v3.drew from (Below.refl _ _).drew)
              clear ha hy hbb hc0 hz hcm hh hl hm h4 h5
              go_wp2_with fail
              clear x10 x11 hx0 hx1 hx2 hx3
              cases v4 with
              | false =>
                rw [Bool.false_and] at HRR
                simp only [Bool.not_false] at q4
                refine region_seq (fun W => Below v3.heap.size v3 W) [(0, true), (1, true), (2, true), (3, true), (4, true), (5, true), (6, true), (7, true), (8, true), (9, true), (10, true), (11, true), (12, true), (13, true), (14, true), (15, true), (16, true), (17, true), (18, true), (19, true), (20, true), (21, true)] (by kernel_rfl) (by kernel_rfl) (by kernel_rfl) (by kernel_rfl) (fun _ _ _ _ _ h => h) HS0.out ?_
                repeat first
                  | refine seq_pure (v := ?_) rfl (by rfl) (fun W hW => ?_) ?_
                    rotate_left
                    · have hb := B3.out.below hW
                      have x10 : W.cell? ⟨w.heap.size, 10, none⟩ = some (.slice (some ⟨b, o, none⟩) s.n s.c) := by rw [← HA.out]; exact hb.cell 10
                      have z0 : W.cell? ⟨b, o, none⟩ = some (.int .i64 y) := HCE.out.1 W hW
                      have zl : W.cell? ⟨b, o + m, none⟩ = some (.int .i64 z) := HCE.out.2 W hW
                      have x0 : W.cell? ⟨w.heap.size, 0, none⟩ = some (.int .i64 s.p.k.tail) := hb.cell 0
                      have x2 : W.cell? ⟨w.heap.size, 2, none⟩ = some (.int .i64 s.p.k.head) := hb.cell 2
                      clear hb
                      clear hW
                      go_simp
                      with_reducible rfl
                    simp only [Act.put, List.setIfInBounds_toArray, List.set_cons_zero, List.set_cons_succ]
                  | refine seq_skip rfl (by rfl) ?_
                    simp only [Act.put, List.setIfInBounds_toArray, List.set_cons_zero, List.set_cons_succ]
                refine seq_done ?_
                go_wp2_with fail
                go_ret
                rw [← HRR.out]
                exact ⟨rfl, L3.out.drew⟩
              | true =>
                rw [Bool.true_and] at HRR
                simp only [Bool.not_true] at q4
                cases v5 with
                | false =>
                  rw [Bool.false_and] at HRR
                  simp only [Bool.not_false] at q5
                  refine region_seq (fun W => Below v3.heap.size v3 W) [(0, true), (1, true), (2, true), (3, true), (4, true), (5, true), (6, true), (7, true), (8, true), (9, true), (10, true), (11, true), (12, true), (13, true), (14, true), (15, true), (16, true), (17, true), (18, true), (19, true), (20, true), (21, true)] (by kernel_rfl) (by kernel_rfl) (by kernel_rfl) (by kernel_rfl) (fun _ _ _ _ _ h => h) HS0.out ?_
                  repeat first
                    | refine seq_pure (v := ?_) rfl (by rfl) (fun W hW => ?_) ?_
                      rotate_left
                      · have hb := B3.out.below hW
                        have x10 : W.cell? ⟨w.heap.size, 10, none⟩ = some (.slice (some ⟨b, o, none⟩) s.n s.c) := by rw [← HA.out]; exact hb.cell 10
                        have z0 : W.cell? ⟨b, o, none⟩ = some (.int .i64 y) := HCE.out.1 W hW
                        have zl : W.cell? ⟨b, o + m, none⟩ = some (.int .i64 z) := HCE.out.2 W hW
                        have x0 : W.cell? ⟨w.heap.size, 0, none⟩ = some (.int .i64 s.p.k.tail) := hb.cell 0
                        have x2 : W.cell? ⟨w.heap.size, 2, none⟩ = some (.int .i64 s.p.k.head) := hb.cell 2
                        clear hb
                        clear hW
                        go_simp
                        with_reducible rfl
                      simp only [Act.put, List.setIfInBounds_toArray, List.set_cons_zero, List.set_cons_succ]
                    | refine seq_skip rfl (by rfl) ?_
                      simp only [Act.put, List.setIfInBounds_toArray, List.set_cons_zero, List.set_cons_succ]
                  refine seq_done ?_
                  go_wp2_with fail
                  go_ret
                  rw [← HRR.out]
                  exact ⟨rfl, L3.out.drew⟩
                | true =>
                  rw [Bool.true_and] at HRR
                  simp only [Bool.not_true] at q5
                  refine region_seq (fun W => Below v3.heap.size v3 W) [(0, true), (1, true), (2, true), (3, true), (4, true), (5, true), (6, true), (7, true), (8, true), (9, true), (10, true), (11, true), (12, true), (13, true), (14, true), (15, true), (16, true), (17, true), (18, true), (19, true), (20, true), (21, true)] (by kernel_rfl) (by kernel_rfl) (by kernel_rfl) (by kernel_rfl) (fun _ _ _ _ _ h => h) HS0.out ?_
                  repeat first
                    | refine seq_pure (v := ?_) rfl (by rfl) (fun W hW => ?_) ?_
                      rotate_left
                      · have hb := B3.out.below hW
                        have x10 : W.cell? ⟨w.heap.size, 10, none⟩ = some (.slice (some ⟨b, o, none⟩) s.n s.c) := by rw [← HA.out]; exact hb.cell 10
                        have z0 : W.cell? ⟨b, o, none⟩ = some (.int .i64 y) := HCE.out.1 W hW
                        have zl : W.cell? ⟨b, o + m, none⟩ = some (.int .i64 z) := HCE.out.2 W hW
                        have x0 : W.cell? ⟨w.heap.size, 0, none⟩ = some (.int .i64 s.p.k.tail) := hb.cell 0
                        have x2 : W.cell? ⟨w.heap.size, 2, none⟩ = some (.int .i64 s.p.k.head) := hb.cell 2
                        clear hb
                        clear hW
                        go_simp
                        with_reducible rfl
                      simp only [Act.put, List.setIfInBounds_toArray, List.set_cons_zero, List.set_cons_succ]
                    | refine seq_skip rfl (by rfl) ?_
                      simp only [Act.put, List.setIfInBounds_toArray, List.set_cons_zero, List.set_cons_succ]
                  refine seq_done ?_
                  have B4 := Lib.hid B3.out.drew
                  have L4 := Lib.hid L3.out.drew
                  clear B3 L3 R3 HCE HA HS0 q4 q5 e2 d0 d1 d5
                  generalize v3.drew = v4 at *
                  have x13 : v4.cell? ⟨w.heap.size, 13, none⟩ = some (.int .i64 s.p.ib) := B4.out.cell 13
                  go_wp2_with fail
                  ((with_reducible refine (rlabel18_calls s.p.ib _).mono ?_))
                  rintro e w9 ⟨rfl, rfl⟩
                  cases hv : lab18 s.p.ib with
                  | false =>
                    rw [hv] at HRR
                    clear hv
                    go_wp2_with fail
                    go_ret
                    rw [← HRR.out]
                    first | exact ⟨rfl, L4.out⟩ | exact ⟨by simp, L4.out⟩
                  | true =>
                    rw [hv, Bool.true_and] at HRR
                    clear hv
                    have x14 : w9.cell? ⟨w.heap.size, 14, none⟩ = some (.int .i64 s.p.ob) := B4.out.cell 14
                    go_wp2_with fail
                    ((with_reducible refine (rlabel18_calls s.p.ob _).mono ?_))
                    rintro e w9 ⟨rfl, rfl⟩
                    cases hv : lab18 s.p.ob with
                    | false =>
                      rw [hv] at HRR
                      clear hv
                      go_wp2_with fail
                      go_ret
                      rw [← HRR.out]
                      first | exact ⟨rfl, L4.out⟩ | exact ⟨by simp, L4.out⟩
                    | true =>
                      rw [hv, Bool.true_and] at HRR
                      clear hv
                      have x12 : w9.cell? ⟨w.heap.size, 12, none⟩ = some (.int .i64 s.p.un) := B4.out.cell 12
                      go_wp2_with fail
                      ((with_reducible refine (rtick18_calls s.p.un _).mono ?_))
                      rintro e w9 ⟨rfl, rfl⟩
                      cases hv : w18 s.p.un 0 1099511627776 with
                      | false =>
                        rw [hv] at HRR
                        clear hv
                        go_wp2_with fail
                        go_ret
                        rw [← HRR.out]
                        first | exact ⟨rfl, L4.out⟩ | exact ⟨by simp, L4.out⟩
                      | true =>
                        rw [hv, Bool.true_and] at HRR
                        clear hv
                        have x15 : w9.cell? ⟨w.heap.size, 15, none⟩ = some (.int .i64 s.p.kp) := B4.out.cell 15
                        go_wp2_with fail
                        ((with_reducible refine (rtick18_calls s.p.kp _).mono ?_))
                        rintro e w9 ⟨rfl, rfl⟩
                        cases hv : w18 s.p.kp 0 1099511627776 with
                        | false =>
                          rw [hv] at HRR
                          clear hv
                          go_wp2_with fail
                          go_ret
                          rw [← HRR.out]
                          first | exact ⟨rfl, L4.out⟩ | exact ⟨by simp, L4.out⟩
                        | true =>
                          rw [hv, Bool.true_and] at HRR
                          clear hv
                          have x16 : w9.cell? ⟨w.heap.size, 16, none⟩ = some (.int .i64 s.p.sn) := B4.out.cell 16
                          go_wp2_with fail
                          ((with_reducible refine (rtick18_calls s.p.sn _).mono ?_))
                          rintro e w9 ⟨rfl, rfl⟩
                          cases hv : w18 s.p.sn 0 1099511627776 with
                          | false =>
                            rw [hv] at HRR
                            clear hv
                            go_wp2_with fail
                            go_ret
                            rw [← HRR.out]
                            first | exact ⟨rfl, L4.out⟩ | exact ⟨by simp, L4.out⟩
                          | true =>
                            rw [hv] at HRR
                            clear hv
                            go_wp2_with fail
                            go_ret
                            rw [← HRR.out]
                            first | exact ⟨rfl, L4.out⟩ | exact ⟨by simp, L4.out⟩
            · rw [decide_eq_false hx2, Bool.false_and] at HRR
              have hx3 : (s.n : Int) ≤ s.p.ix := by omega
              go_wp2_with fail
              go_ret
              rw [← HRR.out]
              first | exact ⟨rfl, L3.out⟩ | exact ⟨by simp, L3.out⟩
          · rw [decide_eq_false hx0, Bool.false_and] at HRR
            have hx1 : s.p.ix < 0 := by omega
            go_wp2_with fail
            go_ret
            rw [← HRR.out]
            first | exact ⟨rfl, L3.out⟩ | exact ⟨by simp, L3.out⟩
end Go.Proofs.Ytogijfebfffobaa
