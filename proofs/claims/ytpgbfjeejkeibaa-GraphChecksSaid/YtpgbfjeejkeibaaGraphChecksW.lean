/-
  The walk of the statement GraphChecks: for any number of nodes, any links and any two nodes it answers true, and nothing that was there has turned. No condition.
-/
import Derived.Test.YtpgbfjeejkeibaaGraphAlive
import Derived.Test.YtpgbfjeejkeibaaGraphJ
import Derived.Test.YtpgbfjeejkeibaaGraphM
import Derived.Test.YtpgbfjeejkeibaaGraphN
namespace Go.Proofs.Ytpgbfjeejkeibaa
open Go.RowKit

theorem near_unique {L : List Lk} {node : Int} {o o' : List Int} (h : NearOk L node o) (h' : NearOk L node o') : o = o' :=
  ordered_unique (R := (· < ·)) (fun x => by omega) (fun x y => by omega) h.order h'.order (fun x => (h.mem x).trans (h'.mem x).symm)
theorem near_len {L : List Lk} {a : Int} {o : List Int} (h : NearOk L a o) (hr : L.length ≤ 200) : o.length ≤ 1099511627776 := by
  have hn : o.Nodup := h.order.imp (fun h e => by omega)
  have h1 := len_perm hn (fun x hx => (nr_mem L a x).2 ((h.mem x).1 hx))
  rcases Nat.lt_or_ge (nr L a L.length).length o.length with h2 | h2
  · have h3 := (h1 (by omega)).length_eq
    omega
  · have := nr_len L a L.length
    omega

set_option maxRecDepth 100000 in
set_option maxHeartbeats 6400000 in
theorem checks_walk (n : Int) (p : Option Addr) (m c : Nat) (x y : Int) (w : World) (hn : -9223372036854775808 ≤ n ∧ n < 9223372036854775808) (h : m ≤ c ∧ c ≤ maxLen ∧ ∃ L, Row lkc w w.heap.size p m L) :
    Calls Try.prog 3 #[.int .i64 n, .slice p m c, .agg #[.int .i64 x, .int .i64 y]] w fun e w' => e = .returned (.bool true) ∧ Below w.heap.size w w' := by
  obtain ⟨_, hcm, L, hR⟩ := h
  have b0 := bel_new (Below.refl w.heap.size w) (.cells #[.int .i64 x, .int .i64 y] 23)
  have B0 := Lib.hid b0
  have Q0 := Lib.hid (Blk.new w 23 [.int .i64 x, .int .i64 y])
  have RL0 := Lib.hid ((hR.below b0).more b0.size)
  have HL := Lib.hid hR.1
  have hb63 : m ≤ 9223372036854775807 := by simp only [maxLen] at hcm; omega
  have HNB := Lib.hid hn
  clear hR hcm b0 hn
  go_enter Try.func3, Try.ntmps3
  go_upto_region 1 with fail
  generalize hw0 : w.alloc (.cells #[.int .i64 x, .int .i64 y] 23) = w0 at *
  clear hw0
  go_wp2_with fail
  ((with_reducible refine (alive9_calls w0).mono ?_))
  rintro e w1 ⟨rfl, b1⟩
  have BW := Lib.hid (bel_more B0.out (Nat.le_refl _) b1)
  have RL := Lib.hid ((RL0.out.below b1).more b1.size)
  have hq1 : Blk w1 w.heap.size 23 [.int .i64 x, .int .i64 y] := Blk.below Q0.out b1
  have HQ1 := Lib.hid hq1
  clear b1 hq1 B0 RL0 Q0
  by_cases hm : 200 < m
  · have hm2 : (200 : Int) < (m : Int) := by omega
    go_wp2_with fail
    go_ret
    exact ⟨rfl, BW.out⟩
  have hm2 : ¬ (200 : Int) < (m : Int) := by omega
  have HSC := Lib.hid (show ∀ W, Below w1.heap.size w1 W → W.cell? ⟨w.heap.size, 0, none⟩ = some (.int .i64 x) ∧ W.cell? ⟨w.heap.size, 1, none⟩ = some (.int .i64 y) from fun W hW => ⟨(Blk.below HQ1.out hW).cell 0, (Blk.below HQ1.out hW).cell 1⟩)
  have HRW := Lib.hid (show ∀ W, Below w1.heap.size w1 W → Row lkc W W.heap.size p m L from fun W hW => (RL.out.below hW).more hW.size)
  have hl := HL.out
  go_wp2_with fail
  clear hm2
  refine region_seq (fun W => W.cell? ⟨w.heap.size, 0, none⟩ = some (.int .i64 x) ∧ W.cell? ⟨w.heap.size, 1, none⟩ = some (.int .i64 y)) [(0, true), (1, true), (3, true), (4, true), (2, false), (5, false), (6, true), (7, true), (8, true), (9, true), (10, true), (11, true), (12, true), (14, true), (15, true), (16, true), (17, true), (18, true), (13, false), (19, false), (20, true), (21, true), (22, true), (23, true), (24, true), (25, true), (27, true), (28, true), (29, true), (26, false), (30, false), (31, false), (32, true), (33, true), (34, true), (35, true), (36, true), (38, true), (39, true), (40, true), (37, false), (41, false), (42, false), (43, true), (44, true)]
    (by kernel_rfl) (by kernel_rfl) (by kernel_rfl) (by kernel_rfl) (fun _ _ _ _ _ h => h) (HSC.out _ (bel_drewN (Below.refl _ _) 1)) ?_
  repeat
    refine seq_pure (v := ?_) rfl (by rfl) (fun W hW => ?_) ?_
    rotate_left
    · have t1 := hW.1
      have t2 := hW.2
      clear hW
      go_simp
      try with_reducible rfl
    simp only [Act.put, List.setIfInBounds_toArray, List.set_cons_zero, List.set_cons_succ]
  refine seq_make rfl (by rfl) (fun K hK => ?_)
  go_simp
  refine (check_calls n p m c L w1.drew (HRW.out _ (bel_drewN (Below.refl _ _) 1)) HNB.out.1 (by have := HNB.out; omega) (by omega)).mono ?_
  rintro e w2 ⟨rfl, b2⟩
  have Bw2 := Lib.hid (show Below w1.heap.size w1 w2 from below_of_drew b2)
  clear b2
  go_simp
  refine hK _ w2 (fun W => W.cell? ⟨w.heap.size, 0, none⟩ = some (.int .i64 x) ∧ W.cell? ⟨w.heap.size, 1, none⟩ = some (.int .i64 y)) (fun W h => h) (HSC.out _ Bw2.out) ?_
  clear hK K
  refine seq_make rfl (by rfl) (fun K hK => ?_)
  go_simp
  refine (rcheck_calls n p m c L _ (HRW.out _ Bw2.out) (by omega)).mono ?_
  rintro e w3 ⟨rfl, b3⟩
  have Bw3 := Lib.hid (bel_more Bw2.out (Nat.le_refl _) (b3))
  clear b3
  go_simp
  refine hK _ w3 (fun W => W.cell? ⟨w.heap.size, 0, none⟩ = some (.int .i64 x) ∧ W.cell? ⟨w.heap.size, 1, none⟩ = some (.int .i64 y)) (fun W h => h) (HSC.out _ Bw3.out) ?_
  clear hK K
  repeat
    refine seq_pure (v := ?_) rfl (by rfl) (fun W hW => ?_) ?_
    rotate_left
    · have t1 := hW.1
      have t2 := hW.2
      clear hW
      go_simp
      try with_reducible rfl
    simp only [Act.put, List.setIfInBounds_toArray, List.set_cons_zero, List.set_cons_succ]
  refine seq_make rfl (by rfl) (fun K hK => ?_)
  go_simp
  refine (find_calls x y p m c L _ (HRW.out _ Bw3.out) (by omega)).mono ?_
  rintro e w4 ⟨rfl, b4⟩
  have Bw4 := Lib.hid (bel_more Bw3.out (Nat.le_refl _) (b4))
  clear b4
  go_simp
  refine hK _ w4 (fun W => W.cell? ⟨w.heap.size, 0, none⟩ = some (.int .i64 x) ∧ W.cell? ⟨w.heap.size, 1, none⟩ = some (.int .i64 y)) (fun W h => h) (HSC.out _ Bw4.out) ?_
  clear hK K
  refine seq_make rfl (by rfl) (fun K hK => ?_)
  go_simp
  refine (rfind_calls x y p m c _ L _ (HRW.out _ Bw4.out) (by omega)).mono ?_
  rintro e w5 ⟨rfl, hw5⟩
  have Bw5 := Lib.hid (show Below w1.heap.size w1 w5 by rw [hw5]; exact Bw4.out)
  clear hw5
  go_simp
  refine hK _ w5 (fun W => W.cell? ⟨w.heap.size, 0, none⟩ = some (.int .i64 x) ∧ W.cell? ⟨w.heap.size, 1, none⟩ = some (.int .i64 y)) (fun W h => h) (HSC.out _ Bw5.out) ?_
  clear hK K
  repeat
    refine seq_pure (v := ?_) rfl (by rfl) (fun W hW => ?_) ?_
    rotate_left
    · have t1 := hW.1
      have t2 := hW.2
      clear hW
      go_simp
      try with_reducible rfl
    simp only [Act.put, List.setIfInBounds_toArray, List.set_cons_zero, List.set_cons_succ]
  refine seq_make rfl (by rfl) (fun K hK => ?_)
  go_simp
  refine (outs_calls x p m c L _ (HRW.out _ Bw5.out) (by omega)).mono ?_
  rintro e w6 ⟨o, A6, c6, rfl, a6, ho, b6⟩
  have Bw6 := Lib.hid (bel_more Bw5.out (Nat.le_refl _) (b6))
  have R6 := Lib.hid (AccR.row a6)
  have HO := Lib.hid ho
  have hol : o.length ≤ 1099511627776 := by have := ho.len; have := gat_len L x L.length; omega
  clear a6 b6 ho
  go_simp
  refine hK _ w6 (fun W => W.cell? ⟨w.heap.size, 0, none⟩ = some (.int .i64 x) ∧ W.cell? ⟨w.heap.size, 1, none⟩ = some (.int .i64 y)) (fun W h => h) (HSC.out _ Bw6.out) ?_
  clear hK K
  refine seq_make rfl (by rfl) (fun K hK => ?_)
  go_simp
  refine (routs_calls x p m c L _ (HRW.out _ Bw6.out) (by omega)).mono ?_
  rintro e w7 ⟨o7, A7, c7, rfl, a7, ho7, b7⟩
  obtain rfl := outs_unique HO.out ho7
  have Bw7 := Lib.hid (bel_more Bw6.out (Nat.le_refl _) b7)
  have R7 := Lib.hid (AccR.row a7)
  have R6' := Lib.hid (R6.out.below b7)
  clear a7 b7 ho7
  go_simp
  refine hK _ w7 (fun W => W.cell? ⟨w.heap.size, 0, none⟩ = some (.int .i64 x) ∧ W.cell? ⟨w.heap.size, 1, none⟩ = some (.int .i64 y)) (fun W h => h) (HSC.out _ Bw7.out) ?_
  clear hK K
  refine seq_make rfl (by rfl) (fun K hK => ?_)
  go_simp
  refine (sameints_calls A6 A7 o.length o.length c6 c7 _ _ o o _ R6'.out R7.out hol hol).mono ?_
  rintro e w8 ⟨rfl, j8, hw8⟩
  have hd8 : decide (o = o) = true := by simp
  rw [hd8]
  have Bw8 := Lib.hid (show Below w1.heap.size w1 w8 by rw [hw8]; exact bel_drewN Bw7.out j8)
  clear hw8 hd8
  go_simp
  refine hK _ w8 (fun W => W.cell? ⟨w.heap.size, 0, none⟩ = some (.int .i64 x) ∧ W.cell? ⟨w.heap.size, 1, none⟩ = some (.int .i64 y)) (fun W h => h) (HSC.out _ Bw8.out) ?_
  clear hK K
  repeat
    refine seq_pure (v := ?_) rfl (by rfl) (fun W hW => ?_) ?_
    rotate_left
    · have t1 := hW.1
      have t2 := hW.2
      clear hW
      go_simp
      try with_reducible rfl
    simp only [Act.put, List.setIfInBounds_toArray, List.set_cons_zero, List.set_cons_succ]
  refine seq_make rfl (by rfl) (fun K hK => ?_)
  go_simp
  refine (near_calls x p m c L _ (HRW.out _ Bw8.out) (by omega)).mono ?_
  rintro e w9 ⟨q, A9, c9, rfl, a9, hq9, b9⟩
  have Bw9 := Lib.hid (bel_more Bw8.out (Nat.le_refl _) (b9))
  have R9 := Lib.hid (AccR.row a9)
  have HQ9 := Lib.hid hq9
  have hql := near_len hq9 (by omega)
  clear a9 b9 hq9
  go_simp
  refine hK _ w9 (fun W => W.cell? ⟨w.heap.size, 0, none⟩ = some (.int .i64 x) ∧ W.cell? ⟨w.heap.size, 1, none⟩ = some (.int .i64 y)) (fun W h => h) (HSC.out _ Bw9.out) ?_
  clear hK K
  refine seq_make rfl (by rfl) (fun K hK => ?_)
  go_simp
  refine (rnear_calls x p m c L _ (HRW.out _ Bw9.out) (by omega)).mono ?_
  rintro e w10 ⟨q10, A10, c10, rfl, a10, hq10, b10⟩
  obtain rfl := near_unique HQ9.out hq10
  have Bw10 := Lib.hid (bel_more Bw9.out (Nat.le_refl _) b10)
  have R10 := Lib.hid (AccR.row a10)
  have R9' := Lib.hid (R9.out.below b10)
  clear a10 b10 hq10
  go_simp
  refine hK _ w10 (fun W => W.cell? ⟨w.heap.size, 0, none⟩ = some (.int .i64 x) ∧ W.cell? ⟨w.heap.size, 1, none⟩ = some (.int .i64 y)) (fun W h => h) (HSC.out _ Bw10.out) ?_
  clear hK K
  refine seq_make rfl (by rfl) (fun K hK => ?_)
  go_simp
  refine (sameints_calls A9 A10 q.length q.length c9 c10 _ _ q q _ R9'.out R10.out hql hql).mono ?_
  rintro e w11 ⟨rfl, j11, hw11⟩
  have hd11 : decide (q = q) = true := by simp
  rw [hd11]
  have Bw11 := Lib.hid (show Below w1.heap.size w1 w11 by rw [hw11]; exact bel_drewN Bw10.out j11)
  clear hw11 hd11
  go_simp
  refine hK _ w11 (fun W => W.cell? ⟨w.heap.size, 0, none⟩ = some (.int .i64 x) ∧ W.cell? ⟨w.heap.size, 1, none⟩ = some (.int .i64 y)) (fun W h => h) (HSC.out _ Bw11.out) ?_
  clear hK K
  repeat
    refine seq_pure (v := ?_) rfl (by rfl) (fun W hW => ?_) ?_
    rotate_left
    · have t1 := hW.1
      have t2 := hW.2
      clear hW
      go_simp
      try with_reducible rfl
    simp only [Act.put, List.setIfInBounds_toArray, List.set_cons_zero, List.set_cons_succ]
  refine seq_done ?_
  have BF := Lib.hid (bel_more BW.out (Nat.le_refl _) Bw11.out)
  go_wp2_with fail
  go_ret
  exact ⟨rfl, BF.out⟩
end Go.Proofs.Ytpgbfjeejkeibaa
