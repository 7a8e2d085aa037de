/-
  The law WholeFlood, walked: for any network, any adverts and whoever is told them the answer is true, and nothing that was there has turned. Condition: numbers as large as their types allow.
-/
import Derived.Test.YtmfmjdkeoiebpaaTewC
import Derived.Test.YtmfmjdkeoiebpaaTedOpen
import Derived.Test.YtmfmjdkeoiebpaaTedK
namespace Go.Proofs.Ytmfmjdkeoiebpaa
set_option maxRecDepth 100000
set_option linter.unusedVariables false
open Go.RowKit

set_option maxHeartbeats 12800000 in
theorem flood15_walk (n : Int) (a : Option Addr) (m c : Nat) (w : World) (hk : I15 n ∧ m ≤ maxLen ∧ ∃ es, Row lkc w w.heap.size a m es ∧ ∀ x ∈ es, LkB x) (a1 : Option Addr) (n1 c1 : Nat) (h1 : n1 ≤ maxLen) (ho : ∃ l, Row adc w w.heap.size a1 n1 l ∧ ∀ x ∈ l, AdOk x ∧ I15 x.q) (a2 : Option Addr) (n2 c2 : Nat) (h2 : n2 ≤ maxLen) (hw : ∃ es, Row eb15 w w.heap.size a2 n2 es) :
    Calls Try.prog 10 #[.agg #[.int .i64 n, .slice a m c], .slice a1 n1 c1, .slice a2 n2 c2] w fun e w' => e = .returned (.bool true) ∧ Below w.heap.size w w' := by
  obtain ⟨hI, hm, L, hrl, hlb⟩ := hk
  obtain ⟨l, hr, hok⟩ := ho
  obtain ⟨es, hes⟩ := hw
  have HRL := Lib.hid hrl
  have HLB := Lib.hid hlb
  have HI := Lib.hid hI
  unfold maxLen at hm
  have HR := Lib.hid hr
  have HOK := Lib.hid hok
  have HES := Lib.hid hes
  unfold maxLen at h1 h2
  have n63 : n2 ≤ 9223372036854775807 := by omega
  clear hr hok hes
  have NB1 := Lib.hid (show Blk (w.alloc (.cells #[.int .i64 n, .slice a m c] 24)) w.heap.size 24 [.int .i64 n, .slice a m c] from Blk.new w 24 [.int .i64 n, .slice a m c])
  have L1 := Lib.hid (bel_new (Below.refl w.heap.size w) (.cells #[.int .i64 n, .slice a m c] 24))
  clear hrl hlb hI
  go_enter Try.func10, Try.ntmps10
  go_upto_region 1 with fail
  generalize (w.alloc (.cells #[.int .i64 n, .slice a m c] 24)) = w1 at *
  have hn := new15_yes 2 none 0 0 [] (by simp) w1 Row.nil (by omega) (by omega) (by omega) (by decide)
  have HN := Lib.hid hn
  clear hn
  go_wp2_with fail
  ((with_reducible refine HN.out.mono ?_))
  intro e w2 h
  obtain ⟨q9, S9, rfl, lv, hb, _⟩ := Liv.start L1.out h
  have V9 := Lib.hid lv
  have NB2 := Lib.hid (NB1.out.below hb)
  clear lv hb h HN NB1 L1
  have hall := fun W (h : Liv w W q9 (bnew []) S9) => (show Calls Try.prog 20 #[.pointer (some ⟨q9, 0, none⟩)] W (Cl15 0 (bnew []) W) from all15c_calls q9 (bnew []) S9 W h.bas)
  unfold Cl15 at hall
  have HALL := Lib.hid hall
  clear hall
  go_wp2_with fail
  ((with_reducible refine (HALL.out w2 V9.out).mono ?_))
  rintro e w3 ⟨A3, c3, rfl, _, hb⟩
  have V9 := Lib.hid (V9.out.below hb)
  have NB3 := Lib.hid (NB2.out.below hb)
  clear hb NB2
  have x1 : w3.cell? ⟨w.heap.size, 1, none⟩ = some (.slice a m c) := NB3.out.cell 1
  by_cases q0 : 100 < m
  · have q0' : (100 : Int) < (m : Int) := by omega
    go_wp2_with fail
    ((with_reducible refine (HALL.out w3 V9.out).mono ?_))
    rintro e w4 ⟨A4, c4, rfl, _, hb⟩
    have V9 := Lib.hid (V9.out.below hb)
    clear hb x1
    go_wp2_with fail
    go_ret
    exact ⟨rfl, V9.out.bel⟩
  have q0' : ¬ (100 : Int) < (m : Int) := by omega
  by_cases q1 : 100 < n1
  · have q1' : (100 : Int) < (n1 : Int) := by omega
    go_wp2_with fail
    ((with_reducible refine (HALL.out w3 V9.out).mono ?_))
    rintro e w4 ⟨A4, c4, rfl, _, hb⟩
    have V9 := Lib.hid (V9.out.below hb)
    clear hb x1
    go_wp2_with fail
    go_ret
    exact ⟨rfl, V9.out.bel⟩
  have q1' : ¬ (100 : Int) < (n1 : Int) := by omega
  have HM := Lib.hid (show m ≤ 100 by omega)
  have HN1 := Lib.hid (show n1 ≤ 100 by omega)
  have L3 := Lib.hid V9.out.bel
  clear q0 q1 HALL V9
  have hn1 : n1 ≤ 100 := HN1.out
  go_wp2_with fail
  clear x1
  go_loopw [44] (fun s W => ∃ i : Nat, i ≤ n1 ∧ s = .int .i64 (i : Int) ∧ Nc15 l i ∧ Blk W w.heap.size 24 [.int .i64 n, .slice a m c] ∧ Below w.heap.size w W) (fun s W => n1 - (intOf s).toNat)
  case atStart => exact ⟨0, by omega, rfl, fun a b x y h => absurd h (by omega), NB3.out, L3.out⟩
  case round =>
    clear NB3 L3
    obtain ⟨i, hi, rfl, hnc, hnb, hbl⟩ := hrel
    have HNC := Lib.hid hnc
    have NBO := Lib.hid hnb
    have HBL := Lib.hid hbl
    clear hnc hbl hnb
    generalize wr = wo at *
    by_cases hin : i < n1
    · have i1 : (i : Int) < (n1 : Int) := by omega
      have HI1 := Lib.hid hin
      obtain ⟨b, o, x, rfl, hx, hb, hc⟩ := range15 HR.out hin
      have HX := Lib.hid hx
      have HCB := Lib.hid hc
      clear hx hb hc hin hi
      go_wp2_with fail
      go_loopw [48] (fun s W => ∃ k : Nat, k ≤ i ∧ s = .int .i64 (k : Int) ∧ (∀ b y, b < k → l[b]? = some y → ends15 x.k = ends15 y.k → x.q = y.q → x = y) ∧ Blk W w.heap.size 24 [.int .i64 n, .slice a m c] ∧ Below w.heap.size w W) (fun s W => i - (intOf s).toNat)
      case atStart => exact ⟨0, by omega, rfl, fun b y h => absurd h (by omega), NBO.out, HBL.out⟩
      case round =>
        obtain ⟨k, hk, rfl, hnk, hnb, hbl⟩ := hrel
        have HNK := Lib.hid hnk
        have NBK := Lib.hid hnb
        have HBK := Lib.hid hbl
        clear hnk hbl HBL hnb NBO
        by_cases hki : k < i
        · have k1 : (k : Int) < (i : Int) := by omega
          have kn : (k : Int) < (n1 : Int) := by omega
          have HK := Lib.hid hki
          obtain ⟨b2, o2, y, ea, hy, _, hc2⟩ := range15 HR.out (show k < n1 by have := HI1.out; omega)
          injection ea with ea
          injection ea with e1 e2
          subst e1; subst e2
          have HY := Lib.hid hy
          have HCX := Lib.hid (fun W (hW : Below wr.heap.size wr W) => HCB.out W (HBK.out.trans (hW.mono HBK.out.size)))
          have HCY := Lib.hid (fun W (hW : Below wr.heap.size wr W) => hc2 W (HBK.out.trans (hW.mono HBK.out.size)))
          obtain ⟨dn, hdn⟩ : ∃ dn, (!decide (x = y)) = dn := ⟨_, rfl⟩
          have HNE := Lib.hid (fun W => (eq_ad15 (HOK.out x (List.mem_of_getElem? HX.out)).1 (HOK.out y (List.mem_of_getElem? hy)).1 W).2)
          rw [hdn] at HNE
          have HDN := Lib.hid hdn
          clear hdn hy hc2 hki hk
          by_cases h1 : x.k.f = y.k.f
          · by_cases h2 : x.k.t = y.k.t
            · by_cases h3 : x.q = y.q
              · cases dn with
                | true =>
                  go_wp2_with fail
                  refine region_seq (fun W => Below wr.heap.size wr W) [(0, true), (1, true), (2, true), (3, true), (4, true), (5, true), (6, true), (7, true), (8, true), (9, true), (10, true), (11, true), (12, true), (13, true), (14, true), (15, true), (16, true), (17, true), (18, true), (19, true), (20, true), (21, true), (22, true), (23, true), (24, true), (25, true), (26, true), (27, true), (28, true), (29, true), (30, true), (31, true), (32, true), (33, true), (34, true), (35, true), (36, true), (37, true), (38, true), (39, true), (40, true), (41, true), (42, true), (43, true), (44, true), (45, true), (46, true), (47, true), (48, true), (49, true), (50, true), (51, true)] (by kernel_rfl) (by kernel_rfl) (by kernel_rfl) (by kernel_rfl) (fun _ _ _ _ _ h => h) (Below.refl _ _).drew ?_
                  repeat first
                    | refine seq_load_at15 rfl (by rfl) rfl rfl HCX.out Try.underlying42 rfl infoAdS15 ?_
                      simp only [Act.put, List.setIfInBounds_toArray, List.set_cons_zero, List.set_cons_succ]
                    | refine seq_load_at15 rfl (by rfl) rfl rfl HCY.out Try.underlying42 rfl infoAdS15 ?_
                      simp only [Act.put, List.setIfInBounds_toArray, List.set_cons_zero, List.set_cons_succ]
                    | refine seq_skip rfl (by rfl) ?_
                      simp only [Act.put, List.setIfInBounds_toArray, List.set_cons_zero, List.set_cons_succ]
                    | refine seq_neA (xs := adc x) (ys := adc y) (c := true) rfl (by rfl) rfl rfl rfl (by kernel_rfl) HNE.out ?_
                      simp only [Act.put, List.setIfInBounds_toArray, List.set_cons_zero, List.set_cons_succ]
                    | refine seq_pure (v := ?_) rfl (by rfl) (fun W hW => ?_) ?_
                      rotate_left
                      · have x0 : W.cell? ⟨b, o + i * 15, none⟩ = some (.int .i64 x.k.f) := HCX.out W hW 0 _ rfl
                        have x1 : W.cell? ⟨b, o + i * 15 + 1, none⟩ = some (.int .i64 x.k.t) := HCX.out W hW 1 _ rfl
                        have x5 : W.cell? ⟨b, o + i * 15 + 5, none⟩ = some (.int .i64 x.q) := HCX.out W hW 5 _ rfl
                        have y0 : W.cell? ⟨b, o + k * 15, none⟩ = some (.int .i64 y.k.f) := HCY.out W hW 0 _ rfl
                        have y1 : W.cell? ⟨b, o + k * 15 + 1, none⟩ = some (.int .i64 y.k.t) := HCY.out W hW 1 _ rfl
                        have y5 : W.cell? ⟨b, o + k * 15 + 5, none⟩ = some (.int .i64 y.q) := HCY.out W hW 5 _ rfl
                        clear hW
                        go_simp
                        with_reducible rfl
                      simp only [Act.put, List.setIfInBounds_toArray, List.set_cons_zero, List.set_cons_succ]
                  refine seq_done ?_
                  go_wp2_with fail
                  go_ret
                  exact ⟨rfl, HBK.out.drew⟩
                | false =>
                  have HC := Lib.hid (show ends15 x.k = ends15 y.k → x.q = y.q → x = y from fun _ _ => by simpa using HDN.out)
                  go_wp2_with fail
                  refine region_seq (fun W => Below wr.heap.size wr W) [(0, true), (1, true), (2, true), (3, true), (4, true), (5, true), (6, true), (7, true), (8, true), (9, true), (10, true), (11, true), (12, true), (13, true), (14, true), (15, true), (16, true), (17, true), (18, true), (19, true), (20, true), (21, true), (22, true), (23, true), (24, true), (25, true), (26, true), (27, true), (28, true), (29, true), (30, true), (31, true), (32, true), (33, true), (34, true), (35, true), (36, true), (37, true), (38, true), (39, true), (40, true), (41, true), (42, true), (43, true), (44, true), (45, true), (46, true), (47, true), (48, true), (49, true), (50, true), (51, true)] (by kernel_rfl) (by kernel_rfl) (by kernel_rfl) (by kernel_rfl) (fun _ _ _ _ _ h => h) (Below.refl _ _).drew ?_
                  repeat first
                    | refine seq_load_at15 rfl (by rfl) rfl rfl HCX.out Try.underlying42 rfl infoAdS15 ?_
                      simp only [Act.put, List.setIfInBounds_toArray, List.set_cons_zero, List.set_cons_succ]
                    | refine seq_load_at15 rfl (by rfl) rfl rfl HCY.out Try.underlying42 rfl infoAdS15 ?_
                      simp only [Act.put, List.setIfInBounds_toArray, List.set_cons_zero, List.set_cons_succ]
                    | refine seq_skip rfl (by rfl) ?_
                      simp only [Act.put, List.setIfInBounds_toArray, List.set_cons_zero, List.set_cons_succ]
                    | refine seq_neA (xs := adc x) (ys := adc y) (c := false) rfl (by rfl) rfl rfl rfl (by kernel_rfl) HNE.out ?_
                      simp only [Act.put, List.setIfInBounds_toArray, List.set_cons_zero, List.set_cons_succ]
                    | refine seq_pure (v := ?_) rfl (by rfl) (fun W hW => ?_) ?_
                      rotate_left
                      · have x0 : W.cell? ⟨b, o + i * 15, none⟩ = some (.int .i64 x.k.f) := HCX.out W hW 0 _ rfl
                        have x1 : W.cell? ⟨b, o + i * 15 + 1, none⟩ = some (.int .i64 x.k.t) := HCX.out W hW 1 _ rfl
                        have x5 : W.cell? ⟨b, o + i * 15 + 5, none⟩ = some (.int .i64 x.q) := HCX.out W hW 5 _ rfl
                        have y0 : W.cell? ⟨b, o + k * 15, none⟩ = some (.int .i64 y.k.f) := HCY.out W hW 0 _ rfl
                        have y1 : W.cell? ⟨b, o + k * 15 + 1, none⟩ = some (.int .i64 y.k.t) := HCY.out W hW 1 _ rfl
                        have y5 : W.cell? ⟨b, o + k * 15 + 5, none⟩ = some (.int .i64 y.q) := HCY.out W hW 5 _ rfl
                        clear hW
                        go_simp
                        with_reducible rfl
                      simp only [Act.put, List.setIfInBounds_toArray, List.set_cons_zero, List.set_cons_succ]
                  refine seq_done ?_
                  go_wp2_with fail
                  go_roundw
                  case rel =>
                    refine ⟨k + 1, by have := HK.out; omega, by first | rfl | (simp; omega), fun b' y' hb' hy' => ?_, NBK.out.drew, HBK.out.drew⟩
                    rcases Nat.lt_or_ge b' k with h | h
                    · exact HNK.out b' y' h hy'
                    · obtain rfl : b' = k := by omega
                      have e : y' = y := by
                        have := HY.out
                        rw [hy'] at this
                        injection this
                      subst e
                      exact HC.out
                  case measure => have := HK.out; simp [intOf]; omega
              · have hb : (x.q == y.q) = false := beq_eq_false_iff_ne.2 h3
                have HC := Lib.hid (show ends15 x.k = ends15 y.k → x.q = y.q → x = y from fun _ h => absurd h h3)
                go_wp2_with fail
                refine region_seq (fun W => Below wr.heap.size wr W) [(0, true), (1, true), (2, true), (3, true), (4, true), (5, true), (6, true), (7, true), (8, true), (9, true), (10, true), (11, true), (12, true), (13, true), (14, true), (15, true), (16, true), (17, true), (18, true), (19, true), (20, true), (21, true), (22, true), (23, true), (24, true), (25, true), (26, true), (27, true), (28, true), (29, true), (30, true), (31, true), (32, true), (33, true), (34, true), (35, true), (36, true), (37, true), (38, true), (39, true), (40, true), (41, true), (42, true), (43, true), (44, true), (45, true), (46, true), (47, true), (48, true), (49, true), (50, true), (51, true)] (by kernel_rfl) (by kernel_rfl) (by kernel_rfl) (by kernel_rfl) (fun _ _ _ _ _ h => h) (Below.refl _ _).drew ?_
                repeat first
                  | refine seq_load_at15 rfl (by rfl) rfl rfl HCX.out Try.underlying42 rfl infoAdS15 ?_
                    simp only [Act.put, List.setIfInBounds_toArray, List.set_cons_zero, List.set_cons_succ]
                  | refine seq_load_at15 rfl (by rfl) rfl rfl HCY.out Try.underlying42 rfl infoAdS15 ?_
                    simp only [Act.put, List.setIfInBounds_toArray, List.set_cons_zero, List.set_cons_succ]
                  | refine seq_skip rfl (by rfl) ?_
                    simp only [Act.put, List.setIfInBounds_toArray, List.set_cons_zero, List.set_cons_succ]
                  | refine seq_neA (xs := adc x) (ys := adc y) (c := dn) rfl (by rfl) rfl rfl rfl (by kernel_rfl) HNE.out ?_
                    simp only [Act.put, List.setIfInBounds_toArray, List.set_cons_zero, List.set_cons_succ]
                  | refine seq_pure (v := ?_) rfl (by rfl) (fun W hW => ?_) ?_
                    rotate_left
                    · have x0 : W.cell? ⟨b, o + i * 15, none⟩ = some (.int .i64 x.k.f) := HCX.out W hW 0 _ rfl
                      have x1 : W.cell? ⟨b, o + i * 15 + 1, none⟩ = some (.int .i64 x.k.t) := HCX.out W hW 1 _ rfl
                      have x5 : W.cell? ⟨b, o + i * 15 + 5, none⟩ = some (.int .i64 x.q) := HCX.out W hW 5 _ rfl
                      have y0 : W.cell? ⟨b, o + k * 15, none⟩ = some (.int .i64 y.k.f) := HCY.out W hW 0 _ rfl
                      have y1 : W.cell? ⟨b, o + k * 15 + 1, none⟩ = some (.int .i64 y.k.t) := HCY.out W hW 1 _ rfl
                      have y5 : W.cell? ⟨b, o + k * 15 + 5, none⟩ = some (.int .i64 y.q) := HCY.out W hW 5 _ rfl
                      clear hW
                      go_simp
                      with_reducible rfl
                    simp only [Act.put, List.setIfInBounds_toArray, List.set_cons_zero, List.set_cons_succ]
                refine seq_done ?_
                go_wp2_with fail
                go_roundw
                case rel =>
                  refine ⟨k + 1, by have := HK.out; omega, by first | rfl | (simp; omega), fun b' y' hb' hy' => ?_, NBK.out.drew, HBK.out.drew⟩
                  rcases Nat.lt_or_ge b' k with h | h
                  · exact HNK.out b' y' h hy'
                  · obtain rfl : b' = k := by omega
                    have e : y' = y := by
                      have := HY.out
                      rw [hy'] at this
                      injection this
                    subst e
                    exact HC.out
                case measure => have := HK.out; simp [intOf]; omega
            · have hb : (x.k.t == y.k.t) = false := beq_eq_false_iff_ne.2 h2
              have HC := Lib.hid (show ends15 x.k = ends15 y.k → x.q = y.q → x = y from fun h _ => absurd (congrArg Prod.snd h) h2)
              go_wp2_with fail
              refine region_seq (fun W => Below wr.heap.size wr W) [(0, true), (1, true), (2, true), (3, true), (4, true), (5, true), (6, true), (7, true), (8, true), (9, true), (10, true), (11, true), (12, true), (13, true), (14, true), (15, true), (16, true), (17, true), (18, true), (19, true), (20, true), (21, true), (22, true), (23, true), (24, true), (25, true), (26, true), (27, true), (28, true), (29, true), (30, true), (31, true), (32, true), (33, true), (34, true), (35, true), (36, true), (37, true), (38, true), (39, true), (40, true), (41, true), (42, true), (43, true), (44, true), (45, true), (46, true), (47, true), (48, true), (49, true), (50, true), (51, true)] (by kernel_rfl) (by kernel_rfl) (by kernel_rfl) (by kernel_rfl) (fun _ _ _ _ _ h => h) (Below.refl _ _).drew ?_
              repeat first
                | refine seq_load_at15 rfl (by rfl) rfl rfl HCX.out Try.underlying42 rfl infoAdS15 ?_
                  simp only [Act.put, List.setIfInBounds_toArray, List.set_cons_zero, List.set_cons_succ]
                | refine seq_load_at15 rfl (by rfl) rfl rfl HCY.out Try.underlying42 rfl infoAdS15 ?_
                  simp only [Act.put, List.setIfInBounds_toArray, List.set_cons_zero, List.set_cons_succ]
                | refine seq_skip rfl (by rfl) ?_
                  simp only [Act.put, List.setIfInBounds_toArray, List.set_cons_zero, List.set_cons_succ]
                | refine seq_neA (xs := adc x) (ys := adc y) (c := dn) rfl (by rfl) rfl rfl rfl (by kernel_rfl) HNE.out ?_
                  simp only [Act.put, List.setIfInBounds_toArray, List.set_cons_zero, List.set_cons_succ]
                | refine seq_pure (v := ?_) rfl (by rfl) (fun W hW => ?_) ?_
                  rotate_left
                  · have x0 : W.cell? ⟨b, o + i * 15, none⟩ = some (.int .i64 x.k.f) := HCX.out W hW 0 _ rfl
                    have x1 : W.cell? ⟨b, o + i * 15 + 1, none⟩ = some (.int .i64 x.k.t) := HCX.out W hW 1 _ rfl
                    have x5 : W.cell? ⟨b, o + i * 15 + 5, none⟩ = some (.int .i64 x.q) := HCX.out W hW 5 _ rfl
                    have y0 : W.cell? ⟨b, o + k * 15, none⟩ = some (.int .i64 y.k.f) := HCY.out W hW 0 _ rfl
                    have y1 : W.cell? ⟨b, o + k * 15 + 1, none⟩ = some (.int .i64 y.k.t) := HCY.out W hW 1 _ rfl
                    have y5 : W.cell? ⟨b, o + k * 15 + 5, none⟩ = some (.int .i64 y.q) := HCY.out W hW 5 _ rfl
                    clear hW
                    go_simp
                    with_reducible rfl
                  simp only [Act.put, List.setIfInBounds_toArray, List.set_cons_zero, List.set_cons_succ]
              refine seq_done ?_
              go_wp2_with fail
              go_roundw
              case rel =>
                refine ⟨k + 1, by have := HK.out; omega, by first | rfl | (simp; omega), fun b' y' hb' hy' => ?_, NBK.out.drew, HBK.out.drew⟩
                rcases Nat.lt_or_ge b' k with h | h
                · exact HNK.out b' y' h hy'
                · obtain rfl : b' = k := by omega
                  have e : y' = y := by
                    have := HY.out
                    rw [hy'] at this
                    injection this
                  subst e
                  exact HC.out
              case measure => have := HK.out; simp [intOf]; omega
          · have hb : (x.k.f == y.k.f) = false := beq_eq_false_iff_ne.2 h1
            have HC := Lib.hid (show ends15 x.k = ends15 y.k → x.q = y.q → x = y from fun h _ => absurd (congrArg Prod.fst h) h1)
            go_wp2_with fail
            refine region_seq (fun W => Below wr.heap.size wr W) [(0, true), (1, true), (2, true), (3, true), (4, true), (5, true), (6, true), (7, true), (8, true), (9, true), (10, true), (11, true), (12, true), (13, true), (14, true), (15, true), (16, true), (17, true), (18, true), (19, true), (20, true), (21, true), (22, true), (23, true), (24, true), (25, true), (26, true), (27, true), (28, true), (29, true), (30, true), (31, true), (32, true), (33, true), (34, true), (35, true), (36, true), (37, true), (38, true), (39, true), (40, true), (41, true), (42, true), (43, true), (44, true), (45, true), (46, true), (47, true), (48, true), (49, true), (50, true), (51, true)] (by kernel_rfl) (by kernel_rfl) (by kernel_rfl) (by kernel_rfl) (fun _ _ _ _ _ h => h) (Below.refl _ _).drew ?_
            repeat first
              | refine seq_load_at15 rfl (by rfl) rfl rfl HCX.out Try.underlying42 rfl infoAdS15 ?_
                simp only [Act.put, List.setIfInBounds_toArray, List.set_cons_zero, List.set_cons_succ]
              | refine seq_load_at15 rfl (by rfl) rfl rfl HCY.out Try.underlying42 rfl infoAdS15 ?_
                simp only [Act.put, List.setIfInBounds_toArray, List.set_cons_zero, List.set_cons_succ]
              | refine seq_skip rfl (by rfl) ?_
                simp only [Act.put, List.setIfInBounds_toArray, List.set_cons_zero, List.set_cons_succ]
              | refine seq_neA (xs := adc x) (ys := adc y) (c := dn) rfl (by rfl) rfl rfl rfl (by kernel_rfl) HNE.out ?_
                simp only [Act.put, List.setIfInBounds_toArray, List.set_cons_zero, List.set_cons_succ]
              | refine seq_pure (v := ?_) rfl (by rfl) (fun W hW => ?_) ?_
                rotate_left
                · have x0 : W.cell? ⟨b, o + i * 15, none⟩ = some (.int .i64 x.k.f) := HCX.out W hW 0 _ rfl
                  have x1 : W.cell? ⟨b, o + i * 15 + 1, none⟩ = some (.int .i64 x.k.t) := HCX.out W hW 1 _ rfl
                  have x5 : W.cell? ⟨b, o + i * 15 + 5, none⟩ = some (.int .i64 x.q) := HCX.out W hW 5 _ rfl
                  have y0 : W.cell? ⟨b, o + k * 15, none⟩ = some (.int .i64 y.k.f) := HCY.out W hW 0 _ rfl
                  have y1 : W.cell? ⟨b, o + k * 15 + 1, none⟩ = some (.int .i64 y.k.t) := HCY.out W hW 1 _ rfl
                  have y5 : W.cell? ⟨b, o + k * 15 + 5, none⟩ = some (.int .i64 y.q) := HCY.out W hW 5 _ rfl
                  clear hW
                  go_simp
                  with_reducible rfl
                simp only [Act.put, List.setIfInBounds_toArray, List.set_cons_zero, List.set_cons_succ]
            refine seq_done ?_
            go_wp2_with fail
            go_roundw
            case rel =>
              refine ⟨k + 1, by have := HK.out; omega, by first | rfl | (simp; omega), fun b' y' hb' hy' => ?_, NBK.out.drew, HBK.out.drew⟩
              rcases Nat.lt_or_ge b' k with h | h
              · exact HNK.out b' y' h hy'
              · obtain rfl : b' = k := by omega
                have e : y' = y := by
                  have := HY.out
                  rw [hy'] at this
                  injection this
                subst e
                exact HC.out
            case measure => have := HK.out; simp [intOf]; omega
        · obtain rfl : k = i := by omega
          have k1 : ¬ (k : Int) < (k : Int) := by omega
          clear hki hk
          go_wp2_with fail
          go_roundw
          case rel =>
            refine ⟨k + 1, by have := HI1.out; omega, by first | rfl | (simp; omega), fun a b x' y' ha hb hx' hy' => ?_, NBK.out, HBK.out⟩
            rcases Nat.lt_or_ge a k with h | h
            · exact HNC.out a b x' y' h hb hx' hy'
            · obtain rfl : a = k := by omega
              have e : x' = x := by
                have := HX.out
                rw [hx'] at this
                injection this
              subst e
              exact HNK.out b y' hb hy'
          case measure => have := HI1.out; simp [intOf]; omega
    · obtain rfl : i = n1 := by omega
      have i1 : ¬ (i : Int) < (i : Int) := by omega
      have HUL := Lib.hid (show Unl (· ∈ l) from nc_unl (by rw [HR.out.1]; exact HNC.out))
      have NB3 := Lib.hid NBO.out
      have L3 := Lib.hid HBL.out
      clear hin hi HNC NBO HBL
      generalize wo = w3 at *
      go_wp2_with fail
      refine region_seq (fun W => Below w3.heap.size w3 W) [(0, true), (1, true), (2, true), (3, true), (5, true), (6, true), (7, true), (8, true), (4, false), (9, false), (10, true), (11, true)] (by kernel_rfl) (by kernel_rfl) (by kernel_rfl) (by kernel_rfl) (fun _ _ _ _ _ h => h) (Below.refl _ _).drew ?_
      repeat
        refine seq_pure (v := ?_) rfl (by rfl) (fun W hW => ?_) ?_
        rotate_left
        · have x0 : W.cell? ⟨w.heap.size, 0, none⟩ = some (.int .i64 n) := (NB3.out.below hW).cell 0
          have x1 : W.cell? ⟨w.heap.size, 1, none⟩ = some (.slice a m c) := (NB3.out.below hW).cell 1
          clear hW
          go_simp
          with_reducible rfl
        simp only [Act.put, List.setIfInBounds_toArray, List.set_cons_zero, List.set_cons_succ]
      by_cases hz : chk n L = 0
      case neg =>
        have HZ := Lib.hid hz
        clear hz
        refine seq_make rfl (by rfl) (fun K hK => ?_)
        go_simp
        have hn := new15_no n a m c L w3.drew ((HRL.out.below (L3.out.drew)).more (L3.out.drew).size) HI.out.1 HI.out.2 (by have := HM.out; omega) HZ.out
        ((with_reducible refine hn.mono ?_))
        rintro e y1 ⟨rfl, hb⟩
        have SBy1 := Lib.hid (show Below w3.heap.size w3 y1 from below_of_drew hb)
        clear hb hn
        go_simp
        refine hK _ _ (fun W => Below w3.heap.size w3 W) (fun W h => h) SBy1.out ?_
        clear hK K
        repeat
          refine seq_pure (v := ?_) rfl (by rfl) (fun W hW => ?_) ?_
          rotate_left
          · have x0 : W.cell? ⟨w.heap.size, 0, none⟩ = some (.int .i64 n) := (NB3.out.below hW).cell 0
            have x1 : W.cell? ⟨w.heap.size, 1, none⟩ = some (.slice a m c) := (NB3.out.below hW).cell 1
            clear hW
            go_simp
            with_reducible rfl
          simp only [Act.put, List.setIfInBounds_toArray, List.set_cons_zero, List.set_cons_succ]
        refine seq_make rfl (by rfl) (fun K hK => ?_)
        go_simp
        have hn := new15_no n a m c L y1 ((HRL.out.below (L3.out.trans (SBy1.out.mono L3.out.size))).more (L3.out.trans (SBy1.out.mono L3.out.size)).size) HI.out.1 HI.out.2 (by have := HM.out; omega) HZ.out
        ((with_reducible refine hn.mono ?_))
        rintro e y2 ⟨rfl, hb⟩
        have SBy2 := Lib.hid (show Below w3.heap.size w3 y2 from SBy1.out.trans (hb.mono SBy1.out.size))
        clear hb hn
        go_simp
        refine hK _ _ (fun W => Below w3.heap.size w3 W) (fun W h => h) SBy2.out ?_
        clear hK K
        repeat
          refine seq_pure (v := ?_) rfl (by rfl) (fun W hW => ?_) ?_
          rotate_left
          · have x0 : W.cell? ⟨w.heap.size, 0, none⟩ = some (.int .i64 n) := (NB3.out.below hW).cell 0
            have x1 : W.cell? ⟨w.heap.size, 1, none⟩ = some (.slice a m c) := (NB3.out.below hW).cell 1
            clear hW
            go_simp
            with_reducible rfl
          simp only [Act.put, List.setIfInBounds_toArray, List.set_cons_zero, List.set_cons_succ]
        refine seq_done ?_
        have L4 := Lib.hid (L3.out.trans (SBy2.out.mono L3.out.size))
        clear SBy1 SBy2
        go_wp2_with fail
        go_ret
        exact ⟨rfl, L4.out⟩
      case pos =>
        have HZ := Lib.hid hz
        have HSM := Lib.hid (chk_small hz)
        have HBS := Lib.hid (bs15_new (chk_small hz).2.1 (fun x hx => HLB.out x hx))
        clear hz
        refine seq_make rfl (by rfl) (fun K hK => ?_)
        go_simp
        have hn := new15_yes n a m c L HLB.out w3.drew ((HRL.out.below (L3.out.drew)).more (L3.out.drew).size) HI.out.1 HI.out.2 (by have := HM.out; omega) HZ.out
        ((with_reducible refine hn.mono ?_))
        intro e y1 h
        obtain ⟨q, S, rfl, lv, hb, hs⟩ := Liv.start L3.out.drew h
        have VA := Lib.hid lv
        have SBy1 := Lib.hid (show Below w3.heap.size w3 y1 from below_of_drew hb)
        clear lv hb hn h hs
        go_simp
        refine hK _ _ (fun W => Below w3.heap.size w3 W) (fun W h => h) SBy1.out ?_
        clear hK K
        repeat
          refine seq_pure (v := ?_) rfl (by rfl) (fun W hW => ?_) ?_
          rotate_left
          · have x0 : W.cell? ⟨w.heap.size, 0, none⟩ = some (.int .i64 n) := (NB3.out.below hW).cell 0
            have x1 : W.cell? ⟨w.heap.size, 1, none⟩ = some (.slice a m c) := (NB3.out.below hW).cell 1
            clear hW
            go_simp
            with_reducible rfl
          simp only [Act.put, List.setIfInBounds_toArray, List.set_cons_zero, List.set_cons_succ]
        refine seq_make rfl (by rfl) (fun K hK => ?_)
        go_simp
        have hn := new15_yes n a m c L HLB.out y1 ((HRL.out.below (L3.out.trans (SBy1.out.mono L3.out.size))).more (L3.out.trans (SBy1.out.mono L3.out.size)).size) HI.out.1 HI.out.2 (by have := HM.out; omega) HZ.out
        ((with_reducible refine hn.mono ?_))
        intro e y2 h
        obtain ⟨q2, S2, rfl, lv, hb, hs⟩ := Liv.start VA.out.bel h
        have DAB := Lib.hid (show ∀ x ∈ S, x ∉ S2 from fun x hx h9 => by have := VA.out.bas.lt x hx; have := hs x h9; omega)
        have DBA := Lib.hid (show ∀ x ∈ S2, x ∉ S from fun x h9 hx => by have := VA.out.bas.lt x hx; have := hs x h9; omega)
        have VA := Lib.hid (VA.out.below hb)
        have VB := Lib.hid lv
        have SBy2 := Lib.hid (show Below w3.heap.size w3 y2 from SBy1.out.trans (hb.mono SBy1.out.size))
        clear lv hb hn h hs
        go_simp
        refine hK _ _ (fun W => Below w3.heap.size w3 W) (fun W h => h) SBy2.out ?_
        clear hK K
        repeat
          refine seq_pure (v := ?_) rfl (by rfl) (fun W hW => ?_) ?_
          rotate_left
          · have x0 : W.cell? ⟨w.heap.size, 0, none⟩ = some (.int .i64 n) := (NB3.out.below hW).cell 0
            have x1 : W.cell? ⟨w.heap.size, 1, none⟩ = some (.slice a m c) := (NB3.out.below hW).cell 1
            clear hW
            go_simp
            with_reducible rfl
          simp only [Act.put, List.setIfInBounds_toArray, List.set_cons_zero, List.set_cons_succ]
        refine seq_done ?_
        clear SBy1 SBy2 L3 NB3
        clear i1
        go_wp2_with fail
        go_loopw [129] (fun t W => ∃ (j : Nat) (la lb : List Ad), j ≤ i ∧ t = .int .i64 (j : Int) ∧ (∀ v, v ∈ la ∨ v ∈ lb → v ∈ l) ∧ Liv w W q (told (bnew L) la) S ∧ Liv w W q2 (told (bnew L) lb) S2) (fun t W => i - (intOf t).toNat)
        case atStart => exact ⟨0, [], [], by omega, rfl, by simp, VA.out, VB.out⟩
        case round =>
          clear VA VB
          obtain ⟨j, la, lb, hj, rfl, hls, hva, hvb⟩ := hrel
          have HLS := Lib.hid hls
          have VA := Lib.hid hva
          have VB := Lib.hid hvb
          clear hls hva hvb
          by_cases hji : j < i
          · have j1 : (j : Int) < (i : Int) := by omega
            have HJ := Lib.hid hji
            obtain ⟨bb, o, x, rfl, hx, hbb, hc⟩ := range15 HR.out hji
            have HXO := Lib.hid (HOK.out x (List.mem_of_getElem? hx))
            have HX := Lib.hid hx
            have HC := Lib.hid (fun W (hW : Below w.heap.size w W) => hc W hW)
            have HIN := Lib.hid (show (Try.prog.info? 42).map (·.size) = some (adc x).length from infoAdS15)
            have HTH := Lib.hid (fun W => theirs15_calls x W)
            unfold Back15 at HTH
            clear hx hbb hc
            clear hji hj
            have hbz := bel_new (Below.refl wr.heap.size wr) (.cells #[.int .i64 0, .int .i64 0, .int .u64 0, .int .i64 0, .int .u32 0, .int .i64 0, .bool false, .int .u64 0, .int .u64 0, .int .u64 0, .int .u64 0, .int .u64 0, .int .u64 0, .int .u64 0, .int .u64 0] 42)
            have BZ := Lib.hid (show Blk (wr.alloc (.cells #[.int .i64 0, .int .i64 0, .int .u64 0, .int .i64 0, .int .u32 0, .int .i64 0, .bool false, .int .u64 0, .int .u64 0, .int .u64 0, .int .u64 0, .int .u64 0, .int .u64 0, .int .u64 0, .int .u64 0] 42)) wr.heap.size 42 zr15 from Blk.new wr _ zr15)
            have VAz := Lib.hid (VA.out.below hbz)
            have VAN := Lib.hid (VA.out.new)
            have VBz := Lib.hid (VB.out.below hbz)
            have VBN := Lib.hid (VB.out.new)
            have QZ := Lib.hid VA.out.bel.size
            have HCW := Lib.hid (HC.out wr VA.out.bel)
            clear hbz VA VB
            go_upto_region 20 with (first | (refine step_load_at (o := ⟨some 133, _, _, _, _, _⟩) rfl rfl rfl HCW.out Try.underlying42 rfl HIN.out ?_) | ((with_reducible refine step_store (o := ⟨none, _, _, _, _, _⟩) (vs := adc x) (ty := 42) (x := .tmp 13) (y := .tmp 133) ?_ ?_ ?_ ?_ BZ.out HIN.out rfl (adc_one _) ?_); (rfl); (rfl); (rfl); (rfl); intro v1 hb5 hg5 hs5))
            have VA := Lib.hid (VAz.out.stored hg5 VAN.out QZ.out)
            have VB := Lib.hid (VBz.out.stored hg5 VBN.out QZ.out)
            have KX := Lib.hid hb5
            clear hb5 hg5 hs5 BZ HCW QZ VAz VAN VBz VBN
            generalize wr.heap.size = qx at *
            by_cases hjn : j < n2
            · have jn1 : (j : Int) < (n2 : Int) := by omega
              obtain ⟨g2, o2, du, rfl, hdu, hgb, hcu⟩ := cells15 eb15_length HES.out hjn
              have u0 : v1.cell? ⟨g2, o2 + j, none⟩ = some (.bool du) := by have := hcu v1 VA.out.bel 0 _ rfl; simpa using this
              clear hdu hgb hcu hjn
              cases du with
              | true =>
                go_wp2_with (refine step_load (o := ⟨some 145, _, _, _, _, _⟩) rfl rfl rfl KX.out Try.underlying42 rfl HIN.out ?_)
                ((with_reducible refine (HTH.out v1).mono ?_))
                rintro e v2 ⟨rfl, hb⟩
                have VA := Lib.hid (VA.out.below hb)
                have VB := Lib.hid (VB.out.below hb)
                clear hb
                have hap := apply15c_calls q (told (bnew L) la) S x HXO.out.1 HXO.out.2 v2 VA.out.bas
                obtain ⟨r, hr⟩ : ∃ r, bApply (told (bnew L) la) x = r := ⟨_, rfl⟩
                rw [hr] at hap
                unfold Ap15 at hap
                have HAP := Lib.hid hap
                have HRE := Lib.hid hr
                clear hap hr
                go_wp2_with fail
                ((with_reducible refine HAP.out.mono ?_))
                rintro e v3 ⟨rfl, hb, ht⟩
                have VB := Lib.hid (VB.out.beside ht DBA.out VA.out.own)
                have VA := Lib.hid (VA.out.apply hb ht)
                clear hb ht HAP
                have VA := Lib.hid (show Liv w v3 q (told (bnew L) (la ++ [x])) S from by rw [told_snoc, HRE.out]; exact VA.out)
                go_wp2_with fail
                go_roundw
                case rel => exact ⟨j + 1, la ++ [x], lb, by have := HJ.out; omega, by first | rfl | (simp; omega), (fun v hv => by
                  have hxl := List.mem_of_getElem? HX.out
                  have := HLS.out v
                  simp only [List.mem_append, List.mem_singleton] at hv
                  rcases hv with hv | hv
                  · rcases hv with hv | rfl
                    · exact this (.inl hv)
                    · exact hxl
                  · exact this (.inr hv)), VA.out, VB.out⟩
                case measure => have := HJ.out; simp [intOf]; omega
              | false =>
                go_wp2_with (refine step_load (o := ⟨some 149, _, _, _, _, _⟩) rfl rfl rfl KX.out Try.underlying42 rfl HIN.out ?_)
                ((with_reducible refine (HTH.out v1).mono ?_))
                rintro e v2 ⟨rfl, hb⟩
                have VA := Lib.hid (VA.out.below hb)
                have VB := Lib.hid (VB.out.below hb)
                clear hb
                have hap := apply15c_calls q2 (told (bnew L) lb) S2 x HXO.out.1 HXO.out.2 v2 VB.out.bas
                obtain ⟨r, hr⟩ : ∃ r, bApply (told (bnew L) lb) x = r := ⟨_, rfl⟩
                rw [hr] at hap
                unfold Ap15 at hap
                have HAP := Lib.hid hap
                have HRE := Lib.hid hr
                clear hap hr
                go_wp2_with fail
                ((with_reducible refine HAP.out.mono ?_))
                rintro e v3 ⟨rfl, hb, ht⟩
                have VA := Lib.hid (VA.out.beside ht DAB.out VB.out.own)
                have VB := Lib.hid (VB.out.apply hb ht)
                clear hb ht HAP
                have VB := Lib.hid (show Liv w v3 q2 (told (bnew L) (lb ++ [x])) S2 from by rw [told_snoc, HRE.out]; exact VB.out)
                go_wp2_with fail
                go_roundw
                case rel => exact ⟨j + 1, la, lb ++ [x], by have := HJ.out; omega, by first | rfl | (simp; omega), (fun v hv => by
                  have hxl := List.mem_of_getElem? HX.out
                  have := HLS.out v
                  simp only [List.mem_append, List.mem_singleton] at hv
                  rcases hv with hv | hv
                  · exact this (.inl hv)
                  · rcases hv with hv | rfl
                    · exact this (.inr hv)
                    · exact hxl), VA.out, VB.out⟩
                case measure => have := HJ.out; simp [intOf]; omega
            · have jn1 : ¬ (j : Int) < (n2 : Int) := by omega
              go_wp2_with (refine step_load (o := ⟨some 149, _, _, _, _, _⟩) rfl rfl rfl KX.out Try.underlying42 rfl HIN.out ?_)
              ((with_reducible refine (HTH.out v1).mono ?_))
              rintro e v2 ⟨rfl, hb⟩
              have VA := Lib.hid (VA.out.below hb)
              have VB := Lib.hid (VB.out.below hb)
              clear hb
              have hap := apply15c_calls q2 (told (bnew L) lb) S2 x HXO.out.1 HXO.out.2 v2 VB.out.bas
              obtain ⟨r, hr⟩ : ∃ r, bApply (told (bnew L) lb) x = r := ⟨_, rfl⟩
              rw [hr] at hap
              unfold Ap15 at hap
              have HAP := Lib.hid hap
              have HRE := Lib.hid hr
              clear hap hr
              go_wp2_with fail
              ((with_reducible refine HAP.out.mono ?_))
              rintro e v3 ⟨rfl, hb, ht⟩
              have VA := Lib.hid (VA.out.beside ht DAB.out VB.out.own)
              have VB := Lib.hid (VB.out.apply hb ht)
              clear hb ht HAP
              have VB := Lib.hid (show Liv w v3 q2 (told (bnew L) (lb ++ [x])) S2 from by rw [told_snoc, HRE.out]; exact VB.out)
              go_wp2_with fail
              go_roundw
              case rel => exact ⟨j + 1, la, lb ++ [x], by have := HJ.out; omega, by first | rfl | (simp; omega), (fun v hv => by
                have hxl := List.mem_of_getElem? HX.out
                have := HLS.out v
                simp only [List.mem_append, List.mem_singleton] at hv
                rcases hv with hv | hv
                · exact this (.inl hv)
                · rcases hv with hv | rfl
                  · exact this (.inr hv)
                  · exact hxl), VA.out, VB.out⟩
              case measure => have := HJ.out; simp [intOf]; omega
          · obtain rfl : j = i := by omega
            have j1 : ¬ (j : Int) < (j : Int) := by omega
            clear hji hj
            have hdis : Dis (bnew L) := HBS.out.dis HSM.out.2.2
            have hfl := told_flood (b := bnew L) (l := la) (m := lb) hdis HBS.out.vld (fun y z hy hz he hq => HUL.out y z (HLS.out y hy) (HLS.out z hz) he hq)
            have hlo : (∀ y ∈ la, AdOk y) ∧ (∀ y ∈ lb, AdOk y) := ⟨fun y hy => (HOK.out y (HLS.out y (.inl hy))).1, fun y hy => (HOK.out y (HLS.out y (.inr hy))).1⟩
            have hBA := bs15_told HSM.out.2.2 HBS.out hlo.1
            have hBB := bs15_told HSM.out.2.2 HBS.out hlo.2
            have hBC := bs15_told HSM.out.2.2 hBA hBB.ok
            obtain ⟨fa, hfa⟩ : ∃ fa, told (bnew L) la = fa := ⟨_, rfl⟩
            obtain ⟨fb, hfb⟩ : ∃ fb, told (bnew L) lb = fb := ⟨_, rfl⟩
            rw [hfa] at hBA hBC hfl VA
            rw [hfb] at hBB hBC hfl VB
            obtain ⟨fc, hfc⟩ : ∃ fc, told fa fb = fc := ⟨_, rfl⟩
            rw [hfc] at hBC hfl
            have hN : fc.length = m := by rw [hBC.length]; exact HRL.out.1
            have HN := Lib.hid hN
            have HFL := Lib.hid hfl
            have HVB := Lib.hid hBB.vld
            have HVC := Lib.hid hBC.vld
            have hl1 := learn15_calls q q2 fa fb S S2 wr VA.out.bas VB.out.bas hBB.vld
            rw [hfc] at hl1
            unfold Le15 at hl1
            have HL1 := Lib.hid hl1
            clear hdis hfl hlo hBA hBB hBC hfa hfb hfc hN hl1
            go_wp2_with fail
            ((with_reducible refine HL1.out.mono ?_))
            rintro e v1 ⟨rfl, hb, ht⟩
            have VB := Lib.hid (VB.out.beside ht DBA.out VA.out.own)
            have VA := Lib.hid (VA.out.apply hb ht)
            clear hb ht HL1
            have hl2 := learn15_calls q2 q fb fc S2 S v1 VB.out.bas VA.out.bas HVC.out
            rw [← HFL.out] at hl2
            unfold Le15 at hl2
            have HL2 := Lib.hid hl2
            clear hl2
            go_wp2_with fail
            ((with_reducible refine HL2.out.mono ?_))
            rintro e v2 ⟨rfl, hb, ht⟩
            have VA := Lib.hid (VA.out.beside ht DAB.out VB.out.own)
            have VB := Lib.hid (VB.out.apply hb ht)
            clear hb ht HL2
            have hall := all15c_calls q fc S v2 VA.out.bas
            rw [show (fc).length = m from HN.out] at hall
            unfold Cl15 at hall
            have HALL := Lib.hid hall
            clear hall
            go_wp2_with fail
            ((with_reducible refine HALL.out.mono ?_))
            rintro e v3 ⟨A7, c7, rfl, acc, hb⟩
            have VA := Lib.hid (VA.out.below hb)
            have VB := Lib.hid (VB.out.below hb)
            have hou := ours15_calls A7 m c7 (fc) v3 (rowT15 acc HN.out) (by have := VA.out.bas.ok.2; have := HN.out; omega)
            unfold OurP15 at hou
            rw [show (fc).length = m from HN.out] at hou
            have HOU := Lib.hid hou
            clear acc hb hou HALL
            go_wp2_with fail
            ((with_reducible refine HOU.out.mono ?_))
            rintro e v4 ⟨A8, c8, rfl, acc, hb⟩
            have VA := Lib.hid (VA.out.below hb)
            have VB := Lib.hid (VB.out.below hb)
            have AOA8 := Lib.hid acc
            clear acc hb HOU
            have hall := all15c_calls q2 fc S2 v4 VB.out.bas
            rw [show (fc).length = m from HN.out] at hall
            unfold Cl15 at hall
            have HALL := Lib.hid hall
            clear hall
            go_wp2_with fail
            ((with_reducible refine HALL.out.mono ?_))
            rintro e v5 ⟨A7, c7, rfl, acc, hb⟩
            have VA := Lib.hid (VA.out.below hb)
            have VB := Lib.hid (VB.out.below hb)
            have AO8 := Lib.hid (show Acc15 v5 _ A8 c8 fc from AccR.bel AOA8.out hb)
            have hou := ours15_calls A7 m c7 (fc) v5 (rowT15 acc HN.out) (by have := HM.out; omega)
            unfold OurP15 at hou
            rw [show (fc).length = m from HN.out] at hou
            have HOU := Lib.hid hou
            clear acc hb hou HALL AOA8
            go_wp2_with fail
            ((with_reducible refine HOU.out.mono ?_))
            rintro e v6 ⟨A9, c9, rfl, acc, hb⟩
            have VA := Lib.hid (VA.out.below hb)
            have AO8 := Lib.hid (show Acc15 v6 _ A8 c8 fc from AccR.bel AO8.out hb)
            have hsa := rsame15_calls A8 A9 m m c8 c9 fc fc (fun y hy => (VA.out.bas.ok.1 y hy).1) (fun y hy => (VA.out.bas.ok.1 y hy).1) v6 (row15 AO8.out HN.out) (row15 acc HN.out) (by have := HM.out; omega) (by have := HM.out; omega)
            unfold Yes15 at hsa
            rw [decide_eq_true rfl] at hsa
            have HSA := Lib.hid hsa
            clear acc hb hsa HOU AO8 VB
            go_wp2_with fail
            ((with_reducible refine HSA.out.mono ?_))
            rintro e v7 ⟨rfl, hb⟩
            have VA := Lib.hid (VA.out.below hb)
            clear hb HSA
            go_wp2_with fail
            go_ret
            exact ⟨rfl, VA.out.bel⟩
end Go.Proofs.Ytmfmjdkeoiebpaa
