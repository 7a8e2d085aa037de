/-
  The law SpfParts, walked: under what the calls of spf are to answer, the answer is true for all arguments, and nothing that was there has turned.
-/
import Derived.Test.YtkagfgnjfdlicaaSpfBestW
namespace Go.Proofs.Ytkagfgnjfdlicaa
set_option maxRecDepth 100000
open Go.RowKit

theorem row_takeS {w : World} {B n k : Nat} {a : Option Addr} {l : List Int} (h : Row ei w B a n l) (hk : k ≤ n) : Row ei w B a k (l.take k) := by
  have hl := h.1
  refine ⟨by rw [List.length_take]; omega, fun h0 => ?_⟩
  obtain ⟨b, o, e, hb, hc⟩ := h.2 (by omega)
  refine ⟨b, o, e, hb, fun i hi => ?_⟩
  have hi2 : i < (l.flatMap ei).length := by
    rw [ei_flat, List.length_map] at hi ⊢
    rw [List.length_take] at hi
    omega
  rw [hc i hi2]
  congr 1
  simp only [ei_flat, List.getElem_map, List.getElem_take]
/-- The next beginning: a node that is not the first one, its best route, and what it costs. -/
theorem parts_next {n : Int} {L : List Lk} {a b c : Int} {r : List Int} (hg : GoodQ n L a b) (h : BestW L a b c r) {i : Nat} (h1 : 1 ≤ i) (hi : i < r.length) {last : Int} (hl : BestW L a (r.getD (i - 1) 0) last (r.take i)) :
    ∃ ci, GoodQ n L a (r.getD i 0) ∧ BestW L a (r.getD i 0) ci (r.take (i + 1)) ∧ last < ci := by
  have hnet := net_of_chk hg.1
  obtain ⟨ci, hb, _, _, _⟩ := best_parts hnet.2.2.2 r.length rfl h i hi
  have hmem : r.getD i 0 ∈ r := by
    simp [List.getD_eq_getElem?_getD, hi]
  have hin := h.1.inn hnet.2.2.2 ⟨hg.2.1, hg.2.2.1⟩ _ hmem
  have hl2 : (r.take (i + 1)).length = i + 1 := by rw [List.length_take]; omega
  refine ⟨ci, ⟨hg.1, hg.2.1, hg.2.2.1, hin.1, hin.2, fun e => ?_⟩, hb, ?_⟩
  · have h0 := h.1.at0
    have hn := h.1.nodup
    have e2 : r[i] = r[0]'(by omega) := by
      have q1 : r.getD i 0 = r[i] := by simp [List.getD_eq_getElem?_getD, hi]
      have q2 : r.getD 0 0 = r[0]'(by omega) := by simp [List.getD_eq_getElem?_getD, show 0 < r.length by omega]
      rw [← q1, ← q2, e, h0]
    have := (List.getElem_inj hn).1 e2
    omega
  · obtain ⟨cj, hb2, _, hlt, _⟩ := best_parts hnet.2.2.2 (i + 1) hl2 hb (i - 1) (by rw [hl2]; omega)
    rw [show i - 1 + 1 = i by omega] at hb2 hlt
    have e1 : (r.take (i + 1)).getD (i - 1) 0 = r.getD (i - 1) 0 := getD_take (by omega)
    have e2 : (r.take (i + 1)).take i = r.take i := by rw [List.take_take, Nat.min_eq_left (by omega)]
    rw [e1, e2] at hb2
    obtain ⟨rfl, _⟩ := best_unique hb2 hl
    exact hlt (by rw [hl2]; omega)

set_option maxRecDepth 100000 in
set_option maxHeartbeats 4000000 in
theorem parts11_walk (hB : BetterOk) (hS : BestOk) (n : Int) (n1 : -9223372036854775808 ≤ n) (n2 : n ≤ 9223372036854775807) (p : Option Addr) (m c : Nat) (a b : Int) (w : World) (h : m ≤ c ∧ c ≤ maxLen ∧ ∃ L, Row lkc w w.heap.size p m L) :
    Calls Try.prog 7 #[.int .i64 n, .slice p m c, .agg #[.int .i64 a, .int .i64 b]] w fun e w' => e = .returned (.bool true) ∧ Below w.heap.size w w' := by
  have HNB := Lib.hid (And.intro n1 n2)
  clear n1 n2
  obtain ⟨_, hcm, L, hR⟩ := h
  have HR := Lib.hid hR
  have HS := Lib.hid hS
  unfold maxLen at hcm
  go_enter Try.func7, Try.ntmps7
  go_wp2_with fail
  have hb1 : Below w.heap.size w (w.alloc (.cells #[.int .i64 a, .int .i64 b] 22)) := bel_new (Below.refl _ _) _
  have hx1 : Blk (w.alloc (.cells #[.int .i64 a, .int .i64 b] 22)) w.heap.size 22 [.int .i64 a, .int .i64 b] := Blk.new w _ _
  generalize w.alloc (.cells #[.int .i64 a, .int .i64 b] 22) = w1 at hb1 hx1 ⊢
  have ha := alive11_calls hB hS w1
  have B1 := Lib.hid hb1
  have X1 := Lib.hid hx1
  clear hb1 hx1 hR hB hS
  ((with_reducible refine ha.mono ?_))
  rintro e w2 ⟨rfl, hb2⟩
  have B2 := Lib.hid (B1.out.trans (hb2.mono B1.out.size))
  have X2 := Lib.hid (X1.out.below hb2)
  clear ha hb2
  by_cases h1 : 100 < m
  · have g1 : (100 : Int) < (m : Int) := by omega
    go_wp2
    go_ret
    exact ⟨rfl, B2.out⟩
  have g1 : ¬ (100 : Int) < (m : Int) := by omega
  have R2 := Lib.hid ((HR.out.below B2.out).more B2.out.size)
  have XC := Lib.hid (show ∀ W, Below w2.heap.size w2 W → W.cell? ⟨w.heap.size, 0, none⟩ = some (.int .i64 a) ∧ W.cell? ⟨w.heap.size, 1, none⟩ = some (.int .i64 b) from fun W hW => ⟨(X2.out.below hW).cell 0, (X2.out.below hW).cell 1⟩)
  have t0 := (XC.out w2 (Below.refl _ _)).1
  have t1 := (XC.out w2 (Below.refl _ _)).2
  have hcb := HS.out n p m c L a b w2 HNB.out.1 HNB.out.2 R2.out (by omega)
  go_wp2_with fail
  ((with_reducible refine hcb.mono ?_))
  rintro e w3 ⟨hb3, hcase⟩
  have C3 := Lib.hid hb3
  clear t0 t1 hcb
  have hsum : (∃ A cA err, e = .returned (.tuple #[.slice A 0 cA, .int .i64 0, .int .i64 err]) ∧ err ≠ 0) ∨
      (GoodQ n L a b ∧ ∃ A c' c r, BestW L a b c r ∧ e = .returned (.tuple #[.slice A r.length c', .int .i64 c, .int .i64 0]) ∧ r.length ≤ c' ∧ Row ei w3 w3.heap.size A r.length r) := by
    rcases hcase with ⟨h1, A, cA, he⟩ | ⟨h1, h2, A, cA, he⟩ | h3
    · exact .inl ⟨A, cA, 2, he, by omega⟩
    · exact .inl ⟨A, cA, 8, he, by omega⟩
    · exact .inr h3
  clear hcase hb3
  rcases hsum with ⟨A, cA, err, rfl, herr⟩ | ⟨hg, A, c', cc, r, hbest, rfl, hlc, hrow⟩
  · have hne : (err != 0) = true := by simpa using herr
    go_wp2
    go_ret
    exact ⟨rfl, B2.out.trans (C3.out.mono B2.out.size)⟩
  have HG := Lib.hid hg
  have HBEST := Lib.hid hbest
  have hinfo := best_route hg hbest
  have HI := Lib.hid hinfo
  obtain ⟨N, hN⟩ : ∃ N, N = r.length := ⟨_, rfl⟩
  rw [← hN]
  rw [← hN] at hlc hrow
  have RW := Lib.hid hrow
  have HN := Lib.hid hN
  have hN16 : N ≤ 16 := by have := hinfo.2.2.2.1; omega
  have hN2 : 2 ≤ N := by have := hinfo.2.2.1; omega
  have HF := Lib.hid (show BestW L a (r.getD (1 - 1) 0) 0 (r.take 1) from by
    obtain ⟨s, hs⟩ := hbest.1.first
    rw [hs]
    exact best_self (net_of_chk hg.1).2.2.2)
  clear hg hbest hinfo hrow hN
  go_wp2_with fail
  go_loopw [10, 11] (fun s t W => ∃ (i : Nat) (last : Int), s = .int .i64 last ∧ t = .int .i64 (i : Int) ∧ 1 ≤ i ∧ i ≤ N ∧ BestW L a (r.getD (i - 1) 0) last (r.take i) ∧ Below w3.heap.size w3 W) (fun s t W => N - (intOf t).toNat)
  case atStart => exact ⟨1, 0, rfl, rfl, Nat.le_refl _, by omega, HF.out, Below.refl _ _⟩
  case round =>
    obtain ⟨i, last, rfl, rfl, hi1, hiN, hl, hb⟩ := hrel
    have HL := Lib.hid hl
    have HB := Lib.hid hb
    clear hl hb
    by_cases hlt : i < N
    · obtain ⟨ci, hg2, hbi, hlast⟩ := parts_next HG.out HBEST.out hi1 (by have := HN.out; omega) HL.out
      have RWr := Lib.hid ((RW.out.below HB.out).more HB.out.size)
      have BW := Lib.hid (C3.out.trans (HB.out.mono C3.out.size))
      have RLr := Lib.hid ((R2.out.below BW.out).more BW.out.size)
      obtain ⟨ab, ao, hA, hab, hcell⟩ := row_int RWr.out (by omega)
      subst hA
      have d0 := hcell i (by have := HN.out; omega)
      have q0 : r[i]'(by have := HN.out; omega) = r.getD i 0 := by simp [List.getD_eq_getElem?_getD, show i < r.length by have := HN.out; omega]
      rw [q0] at d0
      generalize hxi : r.getD i 0 = xi at d0 hg2 hbi
      have HG2 := Lib.hid hg2
      have HBI := Lib.hid hbi
      have HXI := Lib.hid hxi
      have HLA := Lib.hid hlast
      have i1 : (i : Int) < (N : Int) := by omega
      have i2 : i < 17 := by omega
      have DC := Lib.hid (show ∀ W, Below wr.heap.size wr W → W.cell? ⟨ab, ao + i, none⟩ = some (.int .i64 xi) ∧ W.cell? ⟨w.heap.size, 0, none⟩ = some (.int .i64 a) from fun W hW => ⟨(hW.cell (p := ⟨ab, ao + i, none⟩) hab).trans d0, (XC.out W (BW.out.trans (hW.mono BW.out.size))).1⟩)
      clear hcell d0 q0 hab hg2 hbi hxi hlast
      go_wp2_with fail
      refine region_seq (fun W => Below wr.heap.size wr W) [(0, true), (1, true), (2, true), (3, true), (4, true), (5, true), (6, true), (7, true), (8, false), (9, true), (10, true), (11, true), (12, true), (13, true), (14, true), (15, true)]
        (by kernel_rfl) (by kernel_rfl) (by kernel_rfl) (by kernel_rfl) (fun _ _ _ _ _ h => h) (Below.refl _ _).drew ?_
      repeat
        refine seq_pure (v := ?_) rfl (by rfl) (fun W hW => ?_) ?_
        rotate_left
        · obtain ⟨t0, t1⟩ := DC.out W hW
          clear hW
          go_simp
          with_reducible rfl
        simp only [Act.put, List.setIfInBounds_toArray, List.set_cons_zero, List.set_cons_succ]
      refine seq_make rfl (by rfl) (fun K hK => ?_)
      go_simp
      have hcb := HS.out n p m c L a xi wr.drew HNB.out.1 HNB.out.2 (show Row lkc wr.drew wr.drew.heap.size p m L from RLr.out) (by omega)
      ((with_reducible refine hcb.mono ?_))
      rintro e w4 ⟨hb4, hcase⟩
      have hb4' : Below wr.heap.size wr w4 := below_of_drew hb4
      have hlen1 : (r.take (i + 1)).length = i + 1 := by rw [List.length_take]; have := HN.out; omega
      obtain ⟨A4, c4, he, hrow4⟩ : ∃ A4 c4, e = .returned (.tuple #[.slice A4 (i + 1) c4, .int .i64 ci, .int .i64 0]) ∧ Row ei w4 w4.heap.size A4 (i + 1) (r.take (i + 1)) := by
        rcases hcase with ⟨h1, _⟩ | ⟨_, h1, _⟩ | ⟨_, A4, c4, c5, r5, h1, he, _, hr⟩
        · exact absurd HG2.out h1
        · exact absurd HBI.out.1 (h1 _ _)
        · obtain ⟨rfl, rfl⟩ := best_unique h1 HBI.out
          rw [hlen1] at he hr
          exact ⟨A4, c4, he, hr⟩
      subst he
      have C4 := Lib.hid hb4'
      have RW4 := Lib.hid hrow4
      clear hb4 hb4' hcase hrow4 hcb hlen1
      go_simp
      refine hK _ _ (fun W => Below wr.heap.size wr W) (fun W h => h) C4.out ?_
      clear hK K
      repeat
        refine seq_pure (v := ?_) rfl (by rfl) (fun W hW => ?_) ?_
        rotate_left
        · clear hW
          go_simp
          with_reducible rfl
        simp only [Act.put, List.setIfInBounds_toArray, List.set_cons_zero, List.set_cons_succ]
      refine seq_done ?_
      have hrr := row_takeS ((RWr.out.below C4.out).more C4.out.size) (k := i + 1) (by omega)
      have hsi := sameints_calls A4 (some ⟨ab, ao, none⟩) (i + 1) (i + 1) c4 c' _ _ (r.take (i + 1)) (r.take (i + 1)) w4 RW4.out hrr (by omega) (by omega)
      rw [show decide (r.take (i + 1) = r.take (i + 1)) = true by simp] at hsi
      obtain ⟨k1, hk1⟩ : ∃ k1, k1 = i + 1 := ⟨_, rfl⟩
      rw [← hk1] at hsi ⊢
      have x1 : (i : Int) + 1 = (k1 : Int) := by omega
      have x2 : k1 ≤ c' := by omega
      have x4 : k1 < 18 := by omega
      have HK1 := Lib.hid hk1
      have x3 : ¬ ci ≤ last := by have := HLA.out; omega
      clear hrr hk1
      go_wp2_with fail
      ((with_reducible refine hsi.mono ?_))
      rintro e w5 ⟨rfl, j5, hj5⟩
      have C5 := Lib.hid (show Below w3.heap.size w3 w5 from by rw [hj5]; exact bel_drewN (HB.out.trans (C4.out.mono HB.out.size)) j5)
      clear hj5 hsi
      go_wp2_with fail
      go_roundw
      case rel => exact ⟨k1, ci, rfl, rfl, by have := HK1.out; omega, by have := HK1.out; omega, by rw [HK1.out, Nat.add_sub_cancel, HXI.out]; exact HBI.out, C5.out⟩
      case measure => have := HK1.out; simp [intOf]; omega
    · obtain rfl : i = N := by omega
      have i1 : ¬ (i : Int) < (i : Int) := by omega
      have he : last = cc := by
        have h1 := HL.out
        have h2 := HI.out.2.2.2.2.2
        rw [← HN.out] at h2
        rw [h2, HN.out, List.take_length] at h1
        exact (best_unique h1 HBEST.out).1
      subst he
      go_wp2
      go_ret
      exact ⟨by simp, B2.out.trans ((C3.out.trans (HB.out.mono C3.out.size)).mono B2.out.size)⟩
end Go.Proofs.Ytkagfgnjfdlicaa
