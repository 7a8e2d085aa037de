/-
  The law QueueLeast, walked: for every slice of items the answer is true, and nothing that was there has turned. No condition.
-/
import Derived.Test.YtnjgffhhalaknaaQueueJ
import Derived.Deep.CutBlock
namespace Go.Proofs.Ytnjgffhhalaknaa
open Go.RowKit

/-- The cells of an item of a slice. -/
theorem row_itemQ {w : World} {B n : Nat} {a : Option Addr} {es : List Itm} (h : Row itL w B a n es) {i : Nat} (hi : i < n) : ∃ (b o : Nat) (x : Itm), a = some ⟨b, o, none⟩ ∧ es[i]? = some x ∧ b < B ∧ w.rangeAt b (o + i * 3) (itL x) := by
  obtain ⟨b, o, e, hb, hc⟩ := h.cells itL_length (by omega)
  have hi' : i < es.length := by rw [h.1]; exact hi
  refine ⟨b, o, es[i], e, List.getElem?_eq_getElem hi', hb, fun j v hv => ?_⟩
  have hj : j < 3 := by have := (List.getElem?_eq_some_iff.1 hv).1; simpa [itL] using this
  rw [hc i hi' j hj]; exact hv
theorem take_snoc {es : List Itm} {i : Nat} {x : Itm} (h : es[i]? = some x) : es.take (i + 1) = es.take i ++ [x] := by
  rw [List.take_add_one, h]; rfl

set_option maxRecDepth 100000 in
set_option maxHeartbeats 1600000 in
theorem least_walk (a : Option Addr) (n c : Nat) (w : World) (h : n ≤ c ∧ c ≤ maxLen ∧ ∃ es, Row itL w w.heap.size a n es) : Calls Try.prog 7 #[.slice a n c] w fun e w' => e = .returned (.bool true) ∧ Below w.heap.size w w' := by
  obtain ⟨hnc, hcm, es, hes⟩ := h
  have hmx : n ≤ maxLen := by omega
  have ha := alive10_calls w
  have HR := Lib.hid hes
  unfold maxLen at hmx
  clear hnc hcm hes
  go_enter Try.func7, Try.ntmps7
  go_wp2_with fail
  ((with_reducible refine ha.mono ?_))
  rintro e w1 ⟨rfl, b1⟩
  have hn := qs_new b1
  have B1 := Lib.hid b1
  clear ha b1
  go_wp2_with fail
  ((with_reducible refine hn.mono ?_))
  rintro e w2 ⟨q, rfl, h2⟩
  have H2 := Lib.hid h2
  clear hn h2
  go_upto_region 7 with fail
  obtain ⟨m, hm, hm1, hm2, hm3⟩ : ∃ m : Nat, (if (200 : Int) < (n : Int) then (200 : Int) else (n : Int)) = (m : Int) ∧ m ≤ n ∧ m ≤ 200 ∧ (m = 0 → n = 0) := ⟨min n 200, by omega, by omega, by omega, by omega⟩
  rw [hm]
  have HM := Lib.hid (And.intro hm1 hm3)
  clear hm hm1 hm3
  go_wp2_with fail
  go_loopw [18] (fun t wr => ∃ i : Nat, i ≤ m ∧ t = .int .i64 (i : Int) ∧ Qs w wr q (pushQ (es.take i))) (fun t wr => m - (intOf t).toNat)
  case atStart => exact ⟨0, Nat.zero_le _, rfl, H2.out⟩
  case round =>
    obtain ⟨i, him, rfl, h3⟩ := hrel
    have H3 := Lib.hid h3
    clear h3
    by_cases hlt : i < m
    · obtain ⟨b, o, x, rfl, hx, hb, hr⟩ := row_itemQ HR.out (i := i) (by have := HM.out; omega)
      have hr' := fun k v h => (H3.out.1.cell (p := ⟨b, o + i * 3 + k, none⟩) hb).trans (hr k v h)
      have c0 : wr.cell? ⟨b, o + i * 3, none⟩ = some (.int .i64 x.cost) := hr' 0 _ rfl
      have c1 : wr.cell? ⟨b, o + i * 3 + 1, none⟩ = some (.int .i64 x.hops) := hr' 1 _ rfl
      have c2 : wr.cell? ⟨b, o + i * 3 + 2, none⟩ = some (.int .i64 x.node) := hr' 2 _ rfl
      have i1 : (i : Int) < (n : Int) := by have := HM.out; omega
      have ht : Calls Try.prog 9 #[.agg #[.int .i64 x.cost, .int .i64 x.hops, .int .i64 x.node]] wr (AggPost x wr) := theirs10_calls x wr
      have HXX := Lib.hid hx
      clear hr hr' hx hb
      go_wp2_with fail
      ((with_reducible refine ht.mono ?_))
      rintro e w3 ⟨rfl, b3⟩
      have H4 := Lib.hid (H3.out.bel b3)
      have hp := qs_push H4.out x
      have HPL := Lib.hid (show ¬ 1024 ≤ (pushQ (es.take i)).length by have := (pushQ_perm (es.take i)).length_eq; rw [List.length_take] at this; omega)
      unfold QsPush at hp
      rw [if_neg HPL.out, if_neg HPL.out, ← pushQ_snoc, ← take_snoc HXX.out] at hp
      clear ht b3 c0 c1 c2
      go_wp2_with fail
      ((with_reducible refine hp.mono ?_))
      rintro e w5 ⟨rfl, h5⟩
      have H5 := Lib.hid h5
      clear hp h5
      go_wp2_with fail
      go_roundw
      case rel => exact ⟨i + 1, by omega, rfl, H5.out⟩
      case measure => simp [intOf]; omega
    · obtain rfl : i = m := by omega
      clear hlt him
      by_cases hm0 : i = 0
      · subst hm0
        have hl := qs_len H3.out
        have e0 : ((pushQ (es.take 0)).length : Int) = 0 := by simp [pushQ]
        rw [e0] at hl
        go_wp2_with fail
        ((with_reducible refine hl.mono ?_))
        rintro e w5 ⟨rfl, rfl⟩
        go_wp2
        go_ret
        exact ⟨rfl, H3.out.1⟩
      · have hne : ¬ (i : Int) = 0 := by omega
        have HN0 := Lib.hid hm0
        have hpp := qs_pop H3.out
        unfold QsPop at hpp
        clear hm0
        go_wp2_with fail
        ((with_reducible refine hpp.mono ?_))
        rintro e w5 ⟨rfl, h5⟩
        obtain ⟨z, r, hz⟩ : ∃ z r, pushQ (es.take i) = z :: r := by
          cases hp : pushQ (es.take i) with
          | nil =>
            have h1 := (pushQ_perm (es.take i)).length_eq
            have h2 := HR.out.1
            have h3 := HM.out.1
            have h4 := HN0.out
            rw [hp, List.length_take, List.length_nil] at h1
            omega
          | cons z r => exact ⟨z, r, rfl⟩
        have hle : ∀ j y, j < i → es[j]? = some y → iLe z y := by
          intro j y hj hy
          have hm1 : y ∈ es.take i := List.mem_of_getElem? (i := j) (by rw [List.getElem?_take, if_pos hj]; exact hy)
          have hm2 : y ∈ z :: r := by rw [← hz]; exact (pushQ_perm _).mem_iff.2 hm1
          have hs := pushQ_sorted (es.take i)
          rw [hz] at hs
          rcases List.mem_cons.1 hm2 with rfl | hm3
          · exact iLe_refl _
          · exact (List.pairwise_cons.1 hs).1 y hm3
        have hlen : (i : Int) - 1 = (r.length : Int) := by
          have h1 := (pushQ_perm (es.take i)).length_eq
          have h2 := HR.out.1
          have h3 := HM.out.1
          rw [hz, List.length_take, List.length_cons] at h1
          omega
        rw [hz] at h5 ⊢
        have h5' : Qs w w5 q r := h5
        have ez : (Value.agg (itL (hdQ (z :: r))).toArray) = .agg #[.int .i64 z.cost, .int .i64 z.hops, .int .i64 z.node] := rfl
        have ee : erQ (z :: r) = 0 := rfl
        rw [ez, ee]
        have H5 := Lib.hid h5'
        have HLE := Lib.hid hle
        have HLN := Lib.hid hlen
        clear h5 h5' ez ee hz hle hlen hpp
        go_wp2_with fail
        have H6 := Lib.hid (H5.out.bel (bel_new (Below.refl _ _) (.cells #[.int .i64 z.cost, .int .i64 z.hops, .int .i64 z.node] 25)))
        have HZ := Lib.hid (Blk.new w5 25 (itL z))
        have hl := qs_len H6.out
        have HZ6 := Lib.hid (show Blk (w5.alloc (.cells #[.int .i64 z.cost, .int .i64 z.hops, .int .i64 z.node] 25)) w5.heap.size 25 (itL z) from HZ.out)
        generalize w5.alloc (.cells #[.int .i64 z.cost, .int .i64 z.hops, .int .i64 z.node] 25) = w6 at *
        rw [← HLN.out] at hl
        ((with_reducible refine hl.mono ?_))
        rintro e w7 ⟨rfl, rfl⟩
        clear hl
        go_wp2_with fail
        go_loopw [50] (fun t wr => ∃ j : Nat, j ≤ i ∧ t = .int .i64 (j : Int) ∧ Below w7.heap.size w7 wr) (fun t wr => i - (intOf t).toNat)
        case atStart => exact ⟨0, Nat.zero_le _, rfl, Below.refl _ _⟩
        case round =>
          obtain ⟨j, hji, rfl, b8⟩ := hrel
          have B8 := Lib.hid b8
          clear b8
          by_cases hjl : j < i
          · obtain ⟨b, o, x, rfl, hx, hb, hr⟩ := row_itemQ HR.out (i := j) (by have := HM.out; omega)
            have hzx := HLE.out j x hjl hx
            have hd : decide (iLt x z) = false := by simpa [iLe] using hzx
            have j1 : (j : Int) < (n : Int) := by have := HM.out; omega
            have BW := Lib.hid (show Below w.heap.size w wr from H6.out.1.trans (B8.out.mono H6.out.1.size))
            have HRX := Lib.hid (show ∀ W, Below wr.heap.size wr W → W.rangeAt b (o + j * 3) (itL x) from fun W hW k v hv => ((BW.out.trans (hW.mono BW.out.size)).cell (p := ⟨b, o + j * 3 + k, none⟩) hb).trans (hr k v hv))
            have HZR := Lib.hid (show Blk wr w5.heap.size 25 (itL z) from HZ6.out.below B8.out)
            have hlc : ∀ W, Calls Try.prog 8 #[.agg (itL x).toArray, .agg (itL z).toArray] W fun e w' => e = .returned (.bool false) ∧ Below W.heap.size W w' := by
              intro W
              have := less_calls x z W
              unfold LessPost at this
              rwa [hd] at this
            have htc : ∀ W, Calls Try.prog 9 #[.agg (itL x).toArray] W fun e w' => e = .returned (.agg (itL x).toArray) ∧ Below W.heap.size W w' := fun W => theirs10_calls x W
            have HLC := Lib.hid hlc
            have HTC := Lib.hid htc
            clear hx hb hr hzx hd hlc htc
            go_wp2_with fail
            refine region_seq (fun W => Below wr.heap.size wr W) [(0, true), (1, true), (2, true), (3, true), (5, true), (4, false), (6, false)]
              (by kernel_rfl) (by kernel_rfl) (by kernel_rfl) (by kernel_rfl) (fun _ _ _ _ _ h => h) (Below.refl _ _).drew ?_
            repeat first
              | refine seq_load8 rfl (by rfl) rfl rfl (fun W hW => HZR.out.below hW) Try.underlying25 rfl infoItem ?_
                simp only [Act.put, List.setIfInBounds_toArray, List.set_cons_zero, List.set_cons_succ]
              | refine seq_load_at rfl (by rfl) rfl rfl (fun W hW => HRX.out W hW) Try.underlying23 rfl infoItemR ?_
                simp only [Act.put, List.setIfInBounds_toArray, List.set_cons_zero, List.set_cons_succ]
              | refine seq_pure (v := ?_) rfl (by rfl) (fun W hW => ?_) ?_
                rotate_left
                · clear hW
                  go_simp
                  with_reducible rfl
                simp only [Act.put, List.setIfInBounds_toArray, List.set_cons_zero, List.set_cons_succ]
            refine seq_make rfl (by rfl) (fun K hK => ?_)
            go_simp
            ((with_reducible refine (HTC.out wr.drew).mono ?_))
            rintro e w8 ⟨rfl, hb⟩
            have C8 := Lib.hid (show Below wr.heap.size wr w8 from below_of_drew hb)
            clear hb
            go_simp
            refine hK _ _ (fun W => Below wr.heap.size wr W) (fun W h => h) C8.out ?_
            clear hK K
            refine seq_make rfl (by rfl) (fun K hK => ?_)
            go_simp
            ((with_reducible refine (HLC.out w8).mono ?_))
            rintro e w9 ⟨rfl, hb⟩
            have C9 := Lib.hid (show Below wr.heap.size wr w9 from C8.out.trans (hb.mono C8.out.size))
            clear hb
            go_simp
            refine hK _ _ (fun W => Below wr.heap.size wr W) (fun W h => h) C9.out ?_
            clear hK K
            refine seq_done ?_
            go_wp2_with fail
            go_roundw
            case rel => exact ⟨j + 1, by omega, rfl, B8.out.trans (C9.out.mono B8.out.size)⟩
            case measure => simp [intOf]; omega
          · obtain rfl : j = i := by omega
            go_wp2
            go_ret
            exact ⟨rfl, H6.out.1.trans (B8.out.mono H6.out.1.size)⟩
end Go.Proofs.Ytnjgffhhalaknaa
