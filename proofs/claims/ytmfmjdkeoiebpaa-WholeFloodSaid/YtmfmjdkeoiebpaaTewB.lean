/-
  The law's unlike (viaductlaw15). Condition: eight numbers of 64 bits; fewer than 2^30 adverts.
-/
import Derived.Test.YtmfmjdkeoiebpaaTewA
namespace Go.Proofs.Ytmfmjdkeoiebpaa
set_option maxRecDepth 100000
set_option linter.unusedVariables false
open Go.RowKit

/-- Of the first i adverts no two clash. -/
def Nc15 (l : List Ad) (i : Nat) : Prop := ∀ a b x y, a < i → b < a → l[a]? = some x → l[b]? = some y → ends15 x.k = ends15 y.k → x.q = y.q → x = y
theorem nc_unl {l : List Ad} (h : Nc15 l l.length) : Unl (· ∈ l) := by
  intro y z hy hz he hq
  obtain ⟨a, ha, rfl⟩ := List.mem_iff_getElem.1 hy
  obtain ⟨b, hb, rfl⟩ := List.mem_iff_getElem.1 hz
  rcases Nat.lt_trichotomy a b with h1 | h1 | h1
  · exact (h b a _ _ hb h1 (List.getElem?_eq_getElem hb) (List.getElem?_eq_getElem ha) he.symm hq.symm).symm
  · subst h1; rfl
  · exact h a b _ _ ha h1 (List.getElem?_eq_getElem ha) (List.getElem?_eq_getElem hb) he hq
def Un15P (l : List Ad) (w : World) (e : Ending) (w' : World) : Prop := ∃ d : Bool, e = .returned (.bool d) ∧ (d = true → Unl (· ∈ l)) ∧ Below w.heap.size w w'
set_option maxHeartbeats 6400000 in
theorem unlike15_calls (a : Option Addr) (n c : Nat) (l : List Ad) (hok : ∀ x ∈ l, AdOk x) (w : World) (hr : Row adc w w.heap.size a n l) (hn : n ≤ 1073741824) : Calls Try.prog 28 #[.slice a n c] w (Un15P l w) := by
  have HR := Lib.hid hr
  have HLN := Lib.hid hr.1
  have HOK := Lib.hid hok
  have HN := Lib.hid hn
  clear hr hok
  go_enter Try.func28, Try.ntmps28
  go_wp2_with fail
  go_loopw [7] (fun s W => ∃ i : Nat, i ≤ n ∧ s = .int .i64 (i : Int) ∧ Nc15 l i ∧ Below w.heap.size w W) (fun s W => n - (intOf s).toNat)
  case atStart => exact ⟨0, by omega, rfl, fun a b x y h => absurd h (by omega), Below.refl _ _⟩
  case round =>
    obtain ⟨i, hi, rfl, hnc, hbl⟩ := hrel
    have HNC := Lib.hid hnc
    have HBL := Lib.hid hbl
    clear hnc hbl
    generalize wr = wo at *
    by_cases hin : i < n
    · have i1 : (i : Int) < (n : Int) := by omega
      have HI := Lib.hid hin
      obtain ⟨b, o, x, rfl, hx, hb, hc⟩ := range15 HR.out hin
      have HX := Lib.hid hx
      have HCB := Lib.hid hc
      clear hx hb hc hin hi
      go_wp2_with fail
      go_loopw [11] (fun s W => ∃ k : Nat, k ≤ i ∧ s = .int .i64 (k : Int) ∧ (∀ b y, b < k → l[b]? = some y → ends15 x.k = ends15 y.k → x.q = y.q → x = y) ∧ Below w.heap.size w W) (fun s W => i - (intOf s).toNat)
      case atStart => exact ⟨0, by omega, rfl, fun b y h => absurd h (by omega), HBL.out⟩
      case round =>
        obtain ⟨k, hk, rfl, hnk, hbl⟩ := hrel
        have HNK := Lib.hid hnk
        have HBK := Lib.hid hbl
        clear hnk hbl HBL
        by_cases hki : k < i
        · have k1 : (k : Int) < (i : Int) := by omega
          have kn : (k : Int) < (n : Int) := by omega
          have HK := Lib.hid hki
          obtain ⟨b2, o2, y, ea, hy, _, hc2⟩ := range15 HR.out (show k < n by have := HI.out; omega)
          injection ea with ea
          injection ea with e1 e2
          subst e1; subst e2
          have HY := Lib.hid hy
          have HCX := Lib.hid (fun W (hW : Below wr.heap.size wr W) => HCB.out W (HBK.out.trans (hW.mono HBK.out.size)))
          have HCY := Lib.hid (fun W (hW : Below wr.heap.size wr W) => hc2 W (HBK.out.trans (hW.mono HBK.out.size)))
          obtain ⟨dn, hdn⟩ : ∃ dn, (!decide (x = y)) = dn := ⟨_, rfl⟩
          have HNE := Lib.hid (fun W => (eq_ad15 (HOK.out x (List.mem_of_getElem? HX.out)) (HOK.out y (List.mem_of_getElem? hy)) W).2)
          rw [hdn] at HNE
          have HDN := Lib.hid hdn
          clear hdn hy hc2 hki hk
          by_cases h1 : x.k.f = y.k.f
          · by_cases h2 : x.k.t = y.k.t
            · by_cases h3 : x.q = y.q
              · cases dn with
                | true =>
                  go_wp2_with fail
                  refine region_seq (fun W => Below wr.heap.size wr W) [(0, true), (1, true), (2, true), (3, true), (4, true), (5, true), (6, true), (7, true), (8, true), (9, true), (10, true), (11, true), (12, true), (13, true), (14, true), (15, true), (16, true), (17, true), (18, true), (19, true), (20, true), (21, true), (22, true), (23, true), (24, true), (25, true), (26, true), (27, true), (28, true), (29, true), (30, true), (31, true), (32, true), (33, true), (34, true), (35, true), (36, true), (37, true), (38, true), (39, true), (40, true), (41, true), (42, true), (43, true), (44, true), (45, true), (46, true), (47, true), (48, true), (49, true), (50, true), (51, true)] (by kernel_rfl) (by kernel_rfl) (by kernel_rfl) (by kernel_rfl) (fun _ _ _ _ _ h => h) (Below.refl _ _).drew ?_
                  repeat first
                    | refine seq_load_at15 rfl (by rfl) rfl rfl HCX.out Try.underlying42 rfl infoAdS15 ?_
                      simp only [Act.put, List.setIfInBounds_toArray, List.set_cons_zero, List.set_cons_succ]
                    | refine seq_load_at15 rfl (by rfl) rfl rfl HCY.out Try.underlying42 rfl infoAdS15 ?_
                      simp only [Act.put, List.setIfInBounds_toArray, List.set_cons_zero, List.set_cons_succ]
                    | refine seq_skip rfl (by rfl) ?_
                      simp only [Act.put, List.setIfInBounds_toArray, List.set_cons_zero, List.set_cons_succ]
                    | refine seq_neA (xs := adc x) (ys := adc y) (c := true) rfl (by rfl) rfl rfl rfl (by kernel_rfl) HNE.out ?_
                      simp only [Act.put, List.setIfInBounds_toArray, List.set_cons_zero, List.set_cons_succ]
                    | refine seq_pure (v := ?_) rfl (by rfl) (fun W hW => ?_) ?_
                      rotate_left
                      · have x0 : W.cell? ⟨b, o + i * 15, none⟩ = some (.int .i64 x.k.f) := HCX.out W hW 0 _ rfl
                        have x1 : W.cell? ⟨b, o + i * 15 + 1, none⟩ = some (.int .i64 x.k.t) := HCX.out W hW 1 _ rfl
                        have x5 : W.cell? ⟨b, o + i * 15 + 5, none⟩ = some (.int .i64 x.q) := HCX.out W hW 5 _ rfl
                        have y0 : W.cell? ⟨b, o + k * 15, none⟩ = some (.int .i64 y.k.f) := HCY.out W hW 0 _ rfl
                        have y1 : W.cell? ⟨b, o + k * 15 + 1, none⟩ = some (.int .i64 y.k.t) := HCY.out W hW 1 _ rfl
                        have y5 : W.cell? ⟨b, o + k * 15 + 5, none⟩ = some (.int .i64 y.q) := HCY.out W hW 5 _ rfl
                        clear hW
                        go_simp
                        with_reducible rfl
                      simp only [Act.put, List.setIfInBounds_toArray, List.set_cons_zero, List.set_cons_succ]
                  refine seq_done ?_
                  go_wp2_with fail
                  go_ret
                  exact ⟨false, rfl, (fun h => by cases h), HBK.out.drew⟩
                | false =>
                  have HC := Lib.hid (show ends15 x.k = ends15 y.k → x.q = y.q → x = y from fun _ _ => by simpa using HDN.out)
                  go_wp2_with fail
                  refine region_seq (fun W => Below wr.heap.size wr W) [(0, true), (1, true), (2, true), (3, true), (4, true), (5, true), (6, true), (7, true), (8, true), (9, true), (10, true), (11, true), (12, true), (13, true), (14, true), (15, true), (16, true), (17, true), (18, true), (19, true), (20, true), (21, true), (22, true), (23, true), (24, true), (25, true), (26, true), (27, true), (28, true), (29, true), (30, true), (31, true), (32, true), (33, true), (34, true), (35, true), (36, true), (37, true), (38, true), (39, true), (40, true), (41, true), (42, true), (43, true), (44, true), (45, true), (46, true), (47, true), (48, true), (49, true), (50, true), (51, true)] (by kernel_rfl) (by kernel_rfl) (by kernel_rfl) (by kernel_rfl) (fun _ _ _ _ _ h => h) (Below.refl _ _).drew ?_
                  repeat first
                    | refine seq_load_at15 rfl (by rfl) rfl rfl HCX.out Try.underlying42 rfl infoAdS15 ?_
                      simp only [Act.put, List.setIfInBounds_toArray, List.set_cons_zero, List.set_cons_succ]
                    | refine seq_load_at15 rfl (by rfl) rfl rfl HCY.out Try.underlying42 rfl infoAdS15 ?_
                      simp only [Act.put, List.setIfInBounds_toArray, List.set_cons_zero, List.set_cons_succ]
                    | refine seq_skip rfl (by rfl) ?_
                      simp only [Act.put, List.setIfInBounds_toArray, List.set_cons_zero, List.set_cons_succ]
                    | refine seq_neA (xs := adc x) (ys := adc y) (c := false) rfl (by rfl) rfl rfl rfl (by kernel_rfl) HNE.out ?_
                      simp only [Act.put, List.setIfInBounds_toArray, List.set_cons_zero, List.set_cons_succ]
                    | refine seq_pure (v := ?_) rfl (by rfl) (fun W hW => ?_) ?_
                      rotate_left
                      · have x0 : W.cell? ⟨b, o + i * 15, none⟩ = some (.int .i64 x.k.f) := HCX.out W hW 0 _ rfl
                        have x1 : W.cell? ⟨b, o + i * 15 + 1, none⟩ = some (.int .i64 x.k.t) := HCX.out W hW 1 _ rfl
                        have x5 : W.cell? ⟨b, o + i * 15 + 5, none⟩ = some (.int .i64 x.q) := HCX.out W hW 5 _ rfl
                        have y0 : W.cell? ⟨b, o + k * 15, none⟩ = some (.int .i64 y.k.f) := HCY.out W hW 0 _ rfl
                        have y1 : W.cell? ⟨b, o + k * 15 + 1, none⟩ = some (.int .i64 y.k.t) := HCY.out W hW 1 _ rfl
                        have y5 : W.cell? ⟨b, o + k * 15 + 5, none⟩ = some (.int .i64 y.q) := HCY.out W hW 5 _ rfl
                        clear hW
                        go_simp
                        with_reducible rfl
                      simp only [Act.put, List.setIfInBounds_toArray, List.set_cons_zero, List.set_cons_succ]
                  refine seq_done ?_
                  go_wp2_with fail
                  go_roundw
                  case rel =>
                    refine ⟨k + 1, by have := HK.out; omega, by first | rfl | (simp; omega), fun b' y' hb' hy' => ?_, HBK.out.drew⟩
                    rcases Nat.lt_or_ge b' k with h | h
                    · exact HNK.out b' y' h hy'
                    · obtain rfl : b' = k := by omega
                      have e : y' = y := by
                        have := HY.out
                        rw [hy'] at this
                        injection this
                      subst e
                      exact HC.out
                  case measure => have := HK.out; simp [intOf]; omega
              · have hb : (x.q == y.q) = false := beq_eq_false_iff_ne.2 h3
                have HC := Lib.hid (show ends15 x.k = ends15 y.k → x.q = y.q → x = y from fun _ h => absurd h h3)
                go_wp2_with fail
                refine region_seq (fun W => Below wr.heap.size wr W) [(0, true), (1, true), (2, true), (3, true), (4, true), (5, true), (6, true), (7, true), (8, true), (9, true), (10, true), (11, true), (12, true), (13, true), (14, true), (15, true), (16, true), (17, true), (18, true), (19, true), (20, true), (21, true), (22, true), (23, true), (24, true), (25, true), (26, true), (27, true), (28, true), (29, true), (30, true), (31, true), (32, true), (33, true), (34, true), (35, true), (36, true), (37, true), (38, true), (39, true), (40, true), (41, true), (42, true), (43, true), (44, true), (45, true), (46, true), (47, true), (48, true), (49, true), (50, true), (51, true)] (by kernel_rfl) (by kernel_rfl) (by kernel_rfl) (by kernel_rfl) (fun _ _ _ _ _ h => h) (Below.refl _ _).drew ?_
                repeat first
                  | refine seq_load_at15 rfl (by rfl) rfl rfl HCX.out Try.underlying42 rfl infoAdS15 ?_
                    simp only [Act.put, List.setIfInBounds_toArray, List.set_cons_zero, List.set_cons_succ]
                  | refine seq_load_at15 rfl (by rfl) rfl rfl HCY.out Try.underlying42 rfl infoAdS15 ?_
                    simp only [Act.put, List.setIfInBounds_toArray, List.set_cons_zero, List.set_cons_succ]
                  | refine seq_skip rfl (by rfl) ?_
                    simp only [Act.put, List.setIfInBounds_toArray, List.set_cons_zero, List.set_cons_succ]
                  | refine seq_neA (xs := adc x) (ys := adc y) (c := dn) rfl (by rfl) rfl rfl rfl (by kernel_rfl) HNE.out ?_
                    simp only [Act.put, List.setIfInBounds_toArray, List.set_cons_zero, List.set_cons_succ]
                  | refine seq_pure (v := ?_) rfl (by rfl) (fun W hW => ?_) ?_
                    rotate_left
                    · have x0 : W.cell? ⟨b, o + i * 15, none⟩ = some (.int .i64 x.k.f) := HCX.out W hW 0 _ rfl
                      have x1 : W.cell? ⟨b, o + i * 15 + 1, none⟩ = some (.int .i64 x.k.t) := HCX.out W hW 1 _ rfl
                      have x5 : W.cell? ⟨b, o + i * 15 + 5, none⟩ = some (.int .i64 x.q) := HCX.out W hW 5 _ rfl
                      have y0 : W.cell? ⟨b, o + k * 15, none⟩ = some (.int .i64 y.k.f) := HCY.out W hW 0 _ rfl
                      have y1 : W.cell? ⟨b, o + k * 15 + 1, none⟩ = some (.int .i64 y.k.t) := HCY.out W hW 1 _ rfl
                      have y5 : W.cell? ⟨b, o + k * 15 + 5, none⟩ = some (.int .i64 y.q) := HCY.out W hW 5 _ rfl
                      clear hW
                      go_simp
                      with_reducible rfl
                    simp only [Act.put, List.setIfInBounds_toArray, List.set_cons_zero, List.set_cons_succ]
                refine seq_done ?_
                go_wp2_with fail
                go_roundw
                case rel =>
                  refine ⟨k + 1, by have := HK.out; omega, by first | rfl | (simp; omega), fun b' y' hb' hy' => ?_, HBK.out.drew⟩
                  rcases Nat.lt_or_ge b' k with h | h
                  · exact HNK.out b' y' h hy'
                  · obtain rfl : b' = k := by omega
                    have e : y' = y := by
                      have := HY.out
                      rw [hy'] at this
                      injection this
                    subst e
                    exact HC.out
                case measure => have := HK.out; simp [intOf]; omega
            · have hb : (x.k.t == y.k.t) = false := beq_eq_false_iff_ne.2 h2
              have HC := Lib.hid (show ends15 x.k = ends15 y.k → x.q = y.q → x = y from fun h _ => absurd (congrArg Prod.snd h) h2)
              go_wp2_with fail
              refine region_seq (fun W => Below wr.heap.size wr W) [(0, true), (1, true), (2, true), (3, true), (4, true), (5, true), (6, true), (7, true), (8, true), (9, true), (10, true), (11, true), (12, true), (13, true), (14, true), (15, true), (16, true), (17, true), (18, true), (19, true), (20, true), (21, true), (22, true), (23, true), (24, true), (25, true), (26, true), (27, true), (28, true), (29, true), (30, true), (31, true), (32, true), (33, true), (34, true), (35, true), (36, true), (37, true), (38, true), (39, true), (40, true), (41, true), (42, true), (43, true), (44, true), (45, true), (46, true), (47, true), (48, true), (49, true), (50, true), (51, true)] (by kernel_rfl) (by kernel_rfl) (by kernel_rfl) (by kernel_rfl) (fun _ _ _ _ _ h => h) (Below.refl _ _).drew ?_
              repeat first
                | refine seq_load_at15 rfl (by rfl) rfl rfl HCX.out Try.underlying42 rfl infoAdS15 ?_
                  simp only [Act.put, List.setIfInBounds_toArray, List.set_cons_zero, List.set_cons_succ]
                | refine seq_load_at15 rfl (by rfl) rfl rfl HCY.out Try.underlying42 rfl infoAdS15 ?_
                  simp only [Act.put, List.setIfInBounds_toArray, List.set_cons_zero, List.set_cons_succ]
                | refine seq_skip rfl (by rfl) ?_
                  simp only [Act.put, List.setIfInBounds_toArray, List.set_cons_zero, List.set_cons_succ]
                | refine seq_neA (xs := adc x) (ys := adc y) (c := dn) rfl (by rfl) rfl rfl rfl (by kernel_rfl) HNE.out ?_
                  simp only [Act.put, List.setIfInBounds_toArray, List.set_cons_zero, List.set_cons_succ]
                | refine seq_pure (v := ?_) rfl (by rfl) (fun W hW => ?_) ?_
                  rotate_left
                  · have x0 : W.cell? ⟨b, o + i * 15, none⟩ = some (.int .i64 x.k.f) := HCX.out W hW 0 _ rfl
                    have x1 : W.cell? ⟨b, o + i * 15 + 1, none⟩ = some (.int .i64 x.k.t) := HCX.out W hW 1 _ rfl
                    have x5 : W.cell? ⟨b, o + i * 15 + 5, none⟩ = some (.int .i64 x.q) := HCX.out W hW 5 _ rfl
                    have y0 : W.cell? ⟨b, o + k * 15, none⟩ = some (.int .i64 y.k.f) := HCY.out W hW 0 _ rfl
                    have y1 : W.cell? ⟨b, o + k * 15 + 1, none⟩ = some (.int .i64 y.k.t) := HCY.out W hW 1 _ rfl
                    have y5 : W.cell? ⟨b, o + k * 15 + 5, none⟩ = some (.int .i64 y.q) := HCY.out W hW 5 _ rfl
                    clear hW
                    go_simp
                    with_reducible rfl
                  simp only [Act.put, List.setIfInBounds_toArray, List.set_cons_zero, List.set_cons_succ]
              refine seq_done ?_
              go_wp2_with fail
              go_roundw
              case rel =>
                refine ⟨k + 1, by have := HK.out; omega, by first | rfl | (simp; omega), fun b' y' hb' hy' => ?_, HBK.out.drew⟩
                rcases Nat.lt_or_ge b' k with h | h
                · exact HNK.out b' y' h hy'
                · obtain rfl : b' = k := by omega
                  have e : y' = y := by
                    have := HY.out
                    rw [hy'] at this
                    injection this
                  subst e
                  exact HC.out
              case measure => have := HK.out; simp [intOf]; omega
          · have hb : (x.k.f == y.k.f) = false := beq_eq_false_iff_ne.2 h1
            have HC := Lib.hid (show ends15 x.k = ends15 y.k → x.q = y.q → x = y from fun h _ => absurd (congrArg Prod.fst h) h1)
            go_wp2_with fail
            refine region_seq (fun W => Below wr.heap.size wr W) [(0, true), (1, true), (2, true), (3, true), (4, true), (5, true), (6, true), (7, true), (8, true), (9, true), (10, true), (11, true), (12, true), (13, true), (14, true), (15, true), (16, true), (17, true), (18, true), (19, true), (20, true), (21, true), (22, true), (23, true), (24, true), (25, true), (26, true), (27, true), (28, true), (29, true), (30, true), (31, true), (32, true), (33, true), (34, true), (35, true), (36, true), (37, true), (38, true), (39, true), (40, true), (41, true), (42, true), (43, true), (44, true), (45, true), (46, true), (47, true), (48, true), (49, true), (50, true), (51, true)] (by kernel_rfl) (by kernel_rfl) (by kernel_rfl) (by kernel_rfl) (fun _ _ _ _ _ h => h) (Below.refl _ _).drew ?_
            repeat first
              | refine seq_load_at15 rfl (by rfl) rfl rfl HCX.out Try.underlying42 rfl infoAdS15 ?_
                simp only [Act.put, List.setIfInBounds_toArray, List.set_cons_zero, List.set_cons_succ]
              | refine seq_load_at15 rfl (by rfl) rfl rfl HCY.out Try.underlying42 rfl infoAdS15 ?_
                simp only [Act.put, List.setIfInBounds_toArray, List.set_cons_zero, List.set_cons_succ]
              | refine seq_skip rfl (by rfl) ?_
                simp only [Act.put, List.setIfInBounds_toArray, List.set_cons_zero, List.set_cons_succ]
              | refine seq_neA (xs := adc x) (ys := adc y) (c := dn) rfl (by rfl) rfl rfl rfl (by kernel_rfl) HNE.out ?_
                simp only [Act.put, List.setIfInBounds_toArray, List.set_cons_zero, List.set_cons_succ]
              | refine seq_pure (v := ?_) rfl (by rfl) (fun W hW => ?_) ?_
                rotate_left
                · have x0 : W.cell? ⟨b, o + i * 15, none⟩ = some (.int .i64 x.k.f) := HCX.out W hW 0 _ rfl
                  have x1 : W.cell? ⟨b, o + i * 15 + 1, none⟩ = some (.int .i64 x.k.t) := HCX.out W hW 1 _ rfl
                  have x5 : W.cell? ⟨b, o + i * 15 + 5, none⟩ = some (.int .i64 x.q) := HCX.out W hW 5 _ rfl
                  have y0 : W.cell? ⟨b, o + k * 15, none⟩ = some (.int .i64 y.k.f) := HCY.out W hW 0 _ rfl
                  have y1 : W.cell? ⟨b, o + k * 15 + 1, none⟩ = some (.int .i64 y.k.t) := HCY.out W hW 1 _ rfl
                  have y5 : W.cell? ⟨b, o + k * 15 + 5, none⟩ = some (.int .i64 y.q) := HCY.out W hW 5 _ rfl
                  clear hW
                  go_simp
                  with_reducible rfl
                simp only [Act.put, List.setIfInBounds_toArray, List.set_cons_zero, List.set_cons_succ]
            refine seq_done ?_
            go_wp2_with fail
            go_roundw
            case rel =>
              refine ⟨k + 1, by have := HK.out; omega, by first | rfl | (simp; omega), fun b' y' hb' hy' => ?_, HBK.out.drew⟩
              rcases Nat.lt_or_ge b' k with h | h
              · exact HNK.out b' y' h hy'
              · obtain rfl : b' = k := by omega
                have e : y' = y := by
                  have := HY.out
                  rw [hy'] at this
                  injection this
                subst e
                exact HC.out
            case measure => have := HK.out; simp [intOf]; omega
        · obtain rfl : k = i := by omega
          have k1 : ¬ (k : Int) < (k : Int) := by omega
          clear hki hk
          go_wp2_with fail
          go_roundw
          case rel =>
            refine ⟨k + 1, by have := HI.out; omega, by first | rfl | (simp; omega), fun a b x' y' ha hb hx' hy' => ?_, HBK.out⟩
            rcases Nat.lt_or_ge a k with h | h
            · exact HNC.out a b x' y' h hb hx' hy'
            · obtain rfl : a = k := by omega
              have e : x' = x := by
                have := HX.out
                rw [hx'] at this
                injection this
              subst e
              exact HNK.out b y' hb hy'
          case measure => have := HI.out; simp [intOf]; omega
    · obtain rfl : i = n := by omega
      have i1 : ¬ (i : Int) < (i : Int) := by omega
      clear hin hi
      go_wp2_with fail
      go_ret
      exact ⟨true, rfl, fun _ => nc_unl (by rw [HLN.out]; exact HNC.out), HBL.out⟩
end Go.Proofs.Ytmfmjdkeoiebpaa
