/-
  The law SpfBest, walked: under what the calls of spf are to answer, the answer is true for all arguments, and nothing that was there has turned.
-/
import Derived.Test.YtkagfgnjfdlicaaSpfNoneW
namespace Go.Proofs.Ytkagfgnjfdlicaa
set_option maxRecDepth 100000
open Go.RowKit

/-- A best route between two unlike nodes is what layer 9 calls a route. -/
theorem best_route {n : Int} {L : List Lk} {a b c : Int} {r : List Int} (hg : GoodQ n L a b) (h : BestW L a b c r) : RouteOk L r ∧ cst L r r.length = c ∧ 2 ≤ r.length ∧ r.length ≤ 16 ∧ r.getD 0 0 = a ∧ r.getD (r.length - 1) 0 = b := by
  have hnet := net_of_chk hg.1
  have hs := h.1.short hnet.2.2.2 ⟨hg.2.1, hg.2.2.1⟩
  have h2 : 2 ≤ r.length := by
    have h1 := h.1.len
    have e0 := h.1.at0
    have e1 := h.1.atEnd
    rcases Nat.lt_or_ge r.length 2 with h3 | h3
    · have : r.length - 1 = 0 := by omega
      rw [this, e0] at e1
      exact absurd e1.symm hg.2.2.2.2.2
    · exact h3
  have hr := h.1.route (apart_of_chk hg.1) h2 (by omega)
  exact ⟨hr.1, hr.2, h2, by omega, h.1.at0, h.1.atEnd⟩

set_option maxRecDepth 100000 in
set_option maxHeartbeats 4000000 in
theorem best_walk (hB : BetterOk) (hS : BestOk) (n : Int) (n1 : -9223372036854775808 ≤ n) (n2 : n ≤ 9223372036854775807) (p : Option Addr) (m c : Nat) (a b : Int) (w : World) (h : m ≤ c ∧ c ≤ maxLen ∧ ∃ L, Row lkc w w.heap.size p m L) :
    Calls Try.prog 5 #[.int .i64 n, .slice p m c, .agg #[.int .i64 a, .int .i64 b]] w fun e w' => e = .returned (.bool true) ∧ Below w.heap.size w w' := by
  have HNB := Lib.hid (And.intro n1 n2)
  clear n1 n2
  obtain ⟨_, hcm, L, hR⟩ := h
  have HR := Lib.hid hR
  have HS := Lib.hid hS
  unfold maxLen at hcm
  go_enter Try.func5, Try.ntmps5
  go_wp2_with fail
  have hb1 : Below w.heap.size w (w.alloc (.cells #[.int .i64 a, .int .i64 b] 22)) := bel_new (Below.refl _ _) _
  have hx1 : Blk (w.alloc (.cells #[.int .i64 a, .int .i64 b] 22)) w.heap.size 22 [.int .i64 a, .int .i64 b] := Blk.new w _ _
  generalize w.alloc (.cells #[.int .i64 a, .int .i64 b] 22) = w1 at hb1 hx1 ⊢
  have ha := alive11_calls hB hS w1
  have B1 := Lib.hid hb1
  have X1 := Lib.hid hx1
  clear hb1 hx1 hR hB hS
  ((with_reducible refine ha.mono ?_))
  rintro e w2 ⟨rfl, hb2⟩
  have B2 := Lib.hid (B1.out.trans (hb2.mono B1.out.size))
  have X2 := Lib.hid (X1.out.below hb2)
  clear ha hb2
  by_cases h1 : 100 < m
  · have g1 : (100 : Int) < (m : Int) := by omega
    go_wp2
    go_ret
    exact ⟨rfl, B2.out⟩
  have g1 : ¬ (100 : Int) < (m : Int) := by omega
  have R2 := Lib.hid ((HR.out.below B2.out).more B2.out.size)
  have XC := Lib.hid (show ∀ W, Below w2.heap.size w2 W → W.cell? ⟨w.heap.size, 0, none⟩ = some (.int .i64 a) ∧ W.cell? ⟨w.heap.size, 1, none⟩ = some (.int .i64 b) from fun W hW => ⟨(X2.out.below hW).cell 0, (X2.out.below hW).cell 1⟩)
  have t0 := (XC.out w2 (Below.refl _ _)).1
  have t1 := (XC.out w2 (Below.refl _ _)).2
  have hcb := HS.out n p m c L a b w2 HNB.out.1 HNB.out.2 R2.out (by omega)
  go_wp2_with fail
  ((with_reducible refine hcb.mono ?_))
  rintro e w3 ⟨hb3, hcase⟩
  have C3 := Lib.hid hb3
  have R3 := Lib.hid ((R2.out.below hb3).more hb3.size)
  clear t0 t1 hcb
  have t0 := (XC.out w3 hb3).1
  have t1 := (XC.out w3 hb3).2
  have hrb := rbest_calls n p m c L a b w3 R3.out (by omega)
  have hsum : (∃ A cA err, e = .returned (.tuple #[.slice A 0 cA, .int .i64 0, .int .i64 err]) ∧ err ≠ 0 ∧ ((err = 2 ∧ ¬ GoodQ n L a b) ∨ (err = 8 ∧ GoodQ n L a b ∧ ∀ c r, ¬ Wy L a b c r))) ∨
      (GoodQ n L a b ∧ ∃ A c' c r, BestW L a b c r ∧ e = .returned (.tuple #[.slice A r.length c', .int .i64 c, .int .i64 0]) ∧ r.length ≤ c' ∧ Row ei w3 w3.heap.size A r.length r) := by
    rcases hcase with ⟨h1, A, cA, he⟩ | ⟨h1, h2, A, cA, he⟩ | h3
    · exact .inl ⟨A, cA, 2, he, by omega, .inl ⟨rfl, h1⟩⟩
    · exact .inl ⟨A, cA, 8, he, by omega, .inr ⟨rfl, h1, h2⟩⟩
    · exact .inr h3
  clear hcase hb3
  rcases hsum with ⟨A, cA, err, rfl, herr, hkind⟩ | ⟨hg, A, c', cc, r, hbest, rfl, hlc, hrow⟩
  · have HK := Lib.hid hkind
    have HE := Lib.hid herr
    clear hkind herr
    go_wp2_with fail
    ((with_reducible refine hrb.mono ?_))
    rintro e w4 ⟨hb4, hcase⟩
    have he : e = .returned (.tuple #[.agg #[.slice none 0 0, .int .i64 0], .int .i64 err]) := by
      rcases HK.out with ⟨e1, h1⟩ | ⟨e1, h1, h2⟩ <;> rcases hcase with ⟨k1, he⟩ | ⟨k1, k2, k3, k4, k5, k6, k7, he⟩ | ⟨k1, k2, k3, k4, k5, k6, _, _, _, _, k7, _⟩
      · rw [e1]; exact he
      · exact absurd ⟨k1, k2, k3, k4, k5, k6⟩ h1
      · exact absurd ⟨k1, k2, k3, k4, k5, k6⟩ h1
      · exact absurd h1 k1
      · rw [e1]; exact he
      · exact absurd k7.1 (h2 _ _)
    subst he
    have C4 := Lib.hid (C3.out.trans (hb4.mono C3.out.size))
    clear hcase hb4 hrb t0 t1
    have hne : (err != 0) = true := by simpa using HE.out
    go_upto_region 7 with fail
    have hb5 : Below w4.heap.size w4 (w4.alloc (.cells #[.slice none 0 0, .int .i64 0] 37)) := bel_new (Below.refl _ _) _
    have hx5 : Blk (w4.alloc (.cells #[.slice none 0 0, .int .i64 0] 37)) w4.heap.size 37 [.slice none 0 0, .int .i64 0] := Blk.new w4 _ _
    generalize w4.alloc (.cells #[.slice none 0 0, .int .i64 0] 37) = w5 at hb5 hx5 ⊢
    generalize w4.heap.size = xb at hx5 ⊢
    have C5 := Lib.hid (C4.out.trans (hb5.mono C4.out.size))
    have y0 : w5.cell? ⟨xb, 0, none⟩ = some (.slice none 0 0) := hx5.cell 0
    have y1 : w5.cell? ⟨xb, 1, none⟩ = some (.int .i64 0) := hx5.cell 1
    have hsi := sameints_calls A none 0 0 cA 0 0 0 [] [] w5 Row.nil Row.nil (by omega) (by omega)
    rw [show decide (([] : List Int) = []) = true by decide] at hsi
    have HX5 := Lib.hid hx5
    clear hb5 hx5
    go_wp2_with fail
    ((with_reducible refine hsi.mono ?_))
    rintro e w6 ⟨rfl, j6, hj6⟩
    have C6 := Lib.hid (show Below w2.heap.size w2 w6 from by rw [hj6]; exact bel_drewN C5.out j6)
    have z1 : w6.cell? ⟨xb, 1, none⟩ = some (.int .i64 0) := by rw [hj6]; exact HX5.out.cell 1
    clear hj6 hsi y0 y1
    go_wp2
    go_ret
    exact ⟨rfl, B2.out.trans (C6.out.mono B2.out.size)⟩
  · have HG := Lib.hid hg
    have HBEST := Lib.hid hbest
    have hinfo := best_route hg hbest
    have HI := Lib.hid hinfo
    have RW := Lib.hid hrow
    obtain ⟨N, hN⟩ : ∃ N, N = r.length := ⟨_, rfl⟩
    rw [← hN]
    rw [← hN] at hlc
    have HN := Lib.hid hN
    have hN16 : N ≤ 16 := by have := hinfo.2.2.2.1; omega
    have hN2 : 2 ≤ N := by have := hinfo.2.2.1; omega
    clear hg hbest hinfo hrow hN
    go_wp2_with fail
    ((with_reducible refine hrb.mono ?_))
    rintro e w4 ⟨hb4, hcase⟩
    obtain ⟨A2, c2, he, hrow2⟩ : ∃ A2 c2, e = .returned (.tuple #[.agg #[.slice A2 N c2, .int .i64 cc], .int .i64 0]) ∧ Row ei w4 w4.heap.size A2 N r := by
      rcases hcase with ⟨k1, he⟩ | ⟨k1, k2, k3, k4, k5, k6, k7, he⟩ | ⟨k1, k2, k3, k4, k5, k6, A2, c2, c3, r3, k7, he, hr2⟩
      · exact absurd HG.out k1
      · exact absurd HBEST.out.1 (k7 _ _)
      · obtain ⟨rfl, rfl⟩ := best_unique k7 HBEST.out
        rw [← HN.out] at he hr2
        exact ⟨A2, c2, he, hr2⟩
    subst he
    have C4 := Lib.hid (C3.out.trans (hb4.mono C3.out.size))
    have RW4 := Lib.hid (show Row ei w4 w4.heap.size A N r from by have := (RW.out.below hb4).more hb4.size; rw [← HN.out] at this; exact this)
    have RX4 := Lib.hid hrow2
    clear hcase hb4 hrb t0 t1 hrow2
    go_upto_region 7 with fail
    have hb5 : Below w4.heap.size w4 (w4.alloc (.cells #[.slice A2 N c2, .int .i64 cc] 37)) := bel_new (Below.refl _ _) _
    have hx5 : Blk (w4.alloc (.cells #[.slice A2 N c2, .int .i64 cc] 37)) w4.heap.size 37 [.slice A2 N c2, .int .i64 cc] := Blk.new w4 _ _
    generalize w4.alloc (.cells #[.slice A2 N c2, .int .i64 cc] 37) = w5 at hb5 hx5 ⊢
    generalize hxb : w4.heap.size = xb at hx5 ⊢
    have C5 := Lib.hid (C4.out.trans (hb5.mono C4.out.size))
    have RW5 := Lib.hid ((RW4.out.below hb5).more hb5.size)
    have RX5 := Lib.hid ((RX4.out.below hb5).more hb5.size)
    have y0 : w5.cell? ⟨xb, 0, none⟩ = some (.slice A2 N c2) := hx5.cell 0
    have y1 : w5.cell? ⟨xb, 1, none⟩ = some (.int .i64 cc) := hx5.cell 1
    have hsi := sameints_calls A A2 N N c' c2 _ _ r r w5 RW5.out RX5.out (by omega) (by omega)
    rw [show decide (r = r) = true by simp] at hsi
    have HX5 := Lib.hid hx5
    clear hb5 hx5 hxb
    go_wp2_with fail
    ((with_reducible refine hsi.mono ?_))
    rintro e w6 ⟨rfl, j6, hj6⟩
    have C6 := Lib.hid (show Below w2.heap.size w2 w6 from by rw [hj6]; exact bel_drewN C5.out j6)
    have z1 : w6.cell? ⟨xb, 1, none⟩ = some (.int .i64 cc) := by rw [hj6]; exact HX5.out.cell 1
    have R6 := Lib.hid (show Row lkc w6 w6.heap.size p m L from (R2.out.below C6.out).more C6.out.size)
    have RW6 := Lib.hid (show Row ei w6 w6.heap.size A N r from by rw [hj6]; exact RW5.out)
    clear hj6 hsi y0 y1
    have hrr := rroute_calls p A m c N c' _ _ L r w6 R6.out RW6.out (by omega) hlc (by omega) (small_of_net (net_of_chk HG.out.1).2.2.2)
    go_wp2_with fail
    ((with_reducible refine hrr.mono ?_))
    rintro e w7 ⟨⟨kd, hkd⟩, hcase⟩
    have he : e = .returned (.tuple #[.int .i64 cc, .int .i64 0]) := by
      rcases hcase with ⟨_, he⟩ | ⟨hno, _⟩
      · rw [HI.out.2.1] at he; exact he
      · exact absurd HI.out.1 hno
    subst he
    have C7 := Lib.hid (show Below w2.heap.size w2 w7 from by rw [hkd]; exact bel_drewN C6.out kd)
    have RW7 := Lib.hid (show Row ei w7 w7.heap.size A N r from by rw [hkd]; exact RW6.out)
    clear hkd hcase hrr z1
    obtain ⟨ab, ao, hA, hab, hcell⟩ := row_int RW7.out (by omega)
    subst hA
    have d0 := hcell 0 (by have := HN.out; omega)
    have d1 := hcell (N - 1) (by have := HN.out; omega)
    have q0 : r[0]'(by have := HN.out; omega) = a := by
      have := HI.out.2.2.2.2.1
      rw [← this]
      simp [List.getD_eq_getElem?_getD, show 0 < r.length by have := HN.out; omega]
    have q1 : r[N - 1]'(by have := HN.out; omega) = b := by
      have := HI.out.2.2.2.2.2
      rw [← HN.out] at this
      rw [← this]
      simp [List.getD_eq_getElem?_getD, show N - 1 < r.length by have := HN.out; omega]
    rw [q0] at d0
    rw [q1] at d1
    obtain ⟨k1, hk1⟩ : ∃ k1, k1 = N - 1 := ⟨_, rfl⟩
    rw [← hk1] at d1
    have x2 : (N : Int) - 1 = (k1 : Int) := by omega
    have x3 : (k1 : Int) < (N : Int) := by omega
    have x6 : IntKind.i64.wrap (k1 : Int) = (k1 : Int) := by rw [IntWalk.i64_in _ (by omega)]
    have x5 : 0 < N := by omega
    have DC := Lib.hid (show ∀ W, Below w7.heap.size w7 W → W.cell? ⟨ab, ao, none⟩ = some (.int .i64 a) ∧ W.cell? ⟨ab, ao + k1, none⟩ = some (.int .i64 b) ∧ W.cell? ⟨w.heap.size, 0, none⟩ = some (.int .i64 a) ∧ W.cell? ⟨w.heap.size, 1, none⟩ = some (.int .i64 b) from fun W hW => by
      have hx := XC.out W (C7.out.trans (hW.mono C7.out.size))
      exact ⟨(hW.cell (p := ⟨ab, ao, none⟩) hab).trans (by simpa using d0), (hW.cell (p := ⟨ab, ao + k1, none⟩) hab).trans d1, hx.1, hx.2⟩)
    clear hcell d0 d1 q0 q1 hab hk1
    go_upto_region 12 with fail
    refine region_seq (fun W => Below w7.heap.size w7 W) [(0, true), (1, true), (2, true), (3, true), (4, true), (5, true), (6, true), (7, true), (8, true), (9, true), (10, true), (11, true), (12, true), (13, true), (14, true), (15, true), (16, true), (17, true), (18, true), (19, true), (20, true), (21, true), (22, true), (23, true), (24, true), (25, true), (26, true)]
      (by kernel_rfl) (by kernel_rfl) (by kernel_rfl) (by kernel_rfl) (fun _ _ _ _ _ h => h) (Below.refl _ _).drew ?_
    repeat
      refine seq_pure (v := ?_) rfl (by rfl) (fun W hW => ?_) ?_
      rotate_left
      · obtain ⟨t0, t1, t2, t3⟩ := DC.out W hW
        clear hW
        go_simp
        with_reducible rfl
      simp only [Act.put, List.setIfInBounds_toArray, List.set_cons_zero, List.set_cons_succ]
    refine seq_done ?_
    go_wp2
    go_ret
    exact ⟨rfl, B2.out.trans (bel_drewN (C7.out.mono (Nat.le_refl _)) 1 |>.mono B2.out.size)⟩
end Go.Proofs.Ytkagfgnjfdlicaa
