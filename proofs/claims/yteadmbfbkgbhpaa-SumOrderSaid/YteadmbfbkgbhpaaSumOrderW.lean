/-
  The walk of the statement SumOrder: for any bytes and any two words of them it answers true, and nothing that was there has turned. No condition.
-/
import Derived.Test.YteadmbfbkgbhpaaSumAlive
import Derived.Test.YteadmbfbkgbhpaaSeq
namespace Go.Proofs.Yteadmbfbkgbhpaa
open Go.RowKit

theorem order_away (a : Option Addr) (n c : Nat) (i j : Int) (w : World) (hn : 4096 < n ∨ n < 2) (hm : n ≤ maxLen) :
    Calls Try.prog 7 #[.slice a n c, .int .u16 i, .int .u16 j] w fun e w' => e = .returned (.bool true) ∧ Below w.heap.size w w' := by
  unfold maxLen at hm
  by_cases h1 : 4096 < n
  · clear hn
    go_enter Try.func7, Try.ntmps7
    go_wp2_with fail
    ((with_reducible refine (alive_calls w).mono ?_))
    rintro e w1 ⟨rfl, b1⟩
    go_wp2
    go_ret
    exact ⟨rfl, b1⟩
  · have h2 : n < 2 := by omega
    clear hn
    go_enter Try.func7, Try.ntmps7
    go_wp2_with fail
    ((with_reducible refine (alive_calls w).mono ?_))
    rintro e w1 ⟨rfl, b1⟩
    go_wp2
    go_ret
    exact ⟨rfl, b1⟩

/-- Bytes two words of which have changed places. -/
def swap (l : List UInt8) (p q : Nat) (h1 : p + 1 < l.length) (h2 : q + 1 < l.length) : List UInt8 :=
  (((l.set p l[q]).set (p + 1) l[q + 1]).set q l[p]).set (q + 1) l[p + 1]
theorem swap_length (l : List UInt8) (p q : Nat) (h1 : p + 1 < l.length) (h2 : q + 1 < l.length) : (swap l p q h1 h2).length = l.length := by simp [swap]
theorem swap_tot (l : List UInt8) (p q : Nat) (h1 : p + 1 < l.length) (h2 : q + 1 < l.length) (e1 : p % 2 = 0) (e2 : q % 2 = 0) : tot (swap l p q h1 h2) = tot l := by
  have w1 : wt p = 256 := by unfold wt; rw [if_pos e1]
  have w2 : wt q = 256 := by unfold wt; rw [if_pos e2]
  have w3 : wt (p + 1) = 1 := by unfold wt; rw [if_neg (by omega)]
  have w4 : wt (q + 1) = 1 := by unfold wt; rw [if_neg (by omega)]
  have s1 := tot_set l p (by omega) l[q]
  have s2 := tot_set (l.set p l[q]) (p + 1) (by simp; omega) l[q + 1]
  have s3 := tot_set ((l.set p l[q]).set (p + 1) l[q + 1]) q (by simp; omega) l[p]
  have s4 := tot_set (((l.set p l[q]).set (p + 1) l[q + 1]).set q l[p]) (q + 1) (by simp; omega) l[p + 1]
  rw [w1] at s1
  rw [w3] at s2
  rw [w2] at s3
  rw [w4] at s4
  have g2 : (l.set p l[q])[p + 1]'(by simp; omega) = l[p + 1] := by rw [List.getElem_set]; simp
  have g3 : ((l.set p l[q]).set (p + 1) l[q + 1])[q]'(by simp; omega) = l[q] := by
    rw [List.getElem_set, if_neg (by omega), List.getElem_set]; simp
  have g4 : (((l.set p l[q]).set (p + 1) l[q + 1]).set q l[p])[q + 1]'(by simp; omega) = l[q + 1] := by
    rw [List.getElem_set, if_neg (by omega), List.getElem_set]
    split
    · rfl
    · rw [List.getElem_set, if_neg (by omega)]
  rw [g2] at s2
  rw [g3] at s3
  rw [g4] at s4
  unfold swap
  omega

/-- What is read of the bytes that came in. -/
def Reads (b o : Nat) (l : List UInt8) (W : World) : Prop := ∀ (k : Nat) (h : k < l.length), W.cell? ⟨b, o + k, none⟩ = some (bv l[k])
theorem Reads.set_ {w : World} {b g o : Nat} {l : List UInt8} (h : Reads b o l w) (hne : b ≠ g) (k0 : Nat) (v : Value) : Reads b o l (w.setCell ⟨g, k0, none⟩ v) :=
  fun k hk => (World.cell?_of_block (w := w) (Below.heap_setCell _ _ _ _ hne)).trans (h k hk)

theorem bts_of {w : World} {base c n : Nat} {A : Option Addr} {l : List UInt8} (h : Acc w base A c l) (hn : l.length = n) : Bts w w.heap.size A n l := by subst hn; exact h.bts
theorem bel_drew2 {B : Nat} {a w : World} (h : Below B a w) : Below B a w.drew.drew := ⟨h.os, h.tape, h.output, h.size, h.block⟩

set_option maxHeartbeats 2000000 in
theorem order_ok (a : Option Addr) (n c : Nat) (l : List UInt8) (i j : Nat) (w : World) (h : Bts w w.heap.size a n l) (hn : n ≤ 4096) (h2 : 2 ≤ n) (hc : n ≤ c) (hi : i ≤ 65535) (hj : j ≤ 65535) :
    Calls Try.prog 7 #[.slice a n c, .int .u16 (i : Int), .int .u16 (j : Int)] w fun e w' => e = .returned (.bool true) ∧ Below w.heap.size w w' := by
  have HA := Lib.hid h
  have HN := Lib.hid h.1
  clear h
  go_enter Try.func7, Try.ntmps7
  go_wp2_with fail
  ((with_reducible refine (alive_calls w).mono ?_))
  rintro e w1 ⟨rfl, b1⟩
  have B1 := Lib.hid b1
  have HA1 := Lib.hid ((HA.out.below b1).more b1.size)
  clear b1
  obtain ⟨A2, d2, w2, r2, ac2, g2, _⟩ := acc_append (Acc.nil w1 w1.heap.size) (cc := c) HA1.out (Nat.le_refl _) (by simp; omega) 22
  have bb2 := bel_acc (Below.refl w1.heap.size w1) (Acc.nil w1 w1.heap.size) g2
  simp only [List.nil_append, List.length_nil, Nat.zero_add] at r2 ac2
  obtain ⟨g, rfl, hg⟩ := ac2.some (by have := HN.out; omega)
  have hd2 : n ≤ d2 := by have := ac2.cap; rw [HN.out] at this; exact this
  have HAC := Lib.hid ac2
  have R2 := Lib.hid r2
  have B2 := Lib.hid (bel_more B1.out (Nat.le_refl _) bb2)
  have HA2 := Lib.hid (HA1.out.below bb2)
  clear r2 ac2 g2 bb2
  go_wp2_with (at_builtin; refine step_append rfl rfl rfl rfl R2.out ?_)
  obtain ⟨m, hm⟩ : ∃ m : Nat, m = n / 2 := ⟨_, rfl⟩
  have hm1 : (n : Int) / 2 = (m : Int) := by omega
  rw [hm1]
  have hm0 : 1 ≤ m := by omega
  have hmn : 2 * m ≤ n := by omega
  clear hm hm1
  have hz : ((m : Int) == 0) = false := by simp; omega
  have hz2 : ¬ (m = 0) := by omega
  obtain ⟨p, hp⟩ : ∃ p : Nat, p = i % m := ⟨_, rfl⟩
  obtain ⟨q, hq⟩ : ∃ q : Nat, q = j % m := ⟨_, rfl⟩
  have hpm : p < m := by rw [hp]; exact Nat.mod_lt _ (by omega)
  have hqm : q < m := by rw [hq]; exact Nat.mod_lt _ (by omega)
  have tp : (i : Int).tmod (m : Int) = (p : Int) := by rw [Int.tmod_eq_emod_of_nonneg (by omega), hp]; rfl
  have tq : (j : Int).tmod (m : Int) = (q : Int) := by rw [Int.tmod_eq_emod_of_nonneg (by omega), hq]; rfl
  have ep : (i : Int) % (m : Int) = (p : Int) := by rw [hp]; rfl
  have eq : (j : Int) % (m : Int) = (q : Int) := by rw [hq]; rfl
  have wp : IntKind.i64.wrap (2 * (p : Int)) = 2 * (p : Int) := IntWalk.i64_in _ (by omega)
  have wq : IntKind.i64.wrap (2 * (q : Int)) = 2 * (q : Int) := IntWalk.i64_in _ (by omega)
  have wi : IntKind.i64.wrap (i : Int) = (i : Int) := IntWalk.i64_in _ (by omega)
  have wj : IntKind.i64.wrap (j : Int) = (j : Int) := IntWalk.i64_in _ (by omega)
  have wp0 : IntKind.i64.wrap (p : Int) = (p : Int) := IntWalk.i64_in _ (by omega)
  have wq0 : IntKind.i64.wrap (q : Int) = (q : Int) := IntWalk.i64_in _ (by omega)
  clear hp hq
  refine region_seq (fun _ => True) [(0, true), (1, true), (2, true), (3, true), (4, true), (5, true), (6, true), (7, true), (8, true), (9, true), (10, true), (11, true)]
    (by kernel_rfl) (by kernel_rfl) (by kernel_rfl) (by kernel_rfl) (fun _ _ _ _ _ h => h) trivial ?_
  repeat
    refine seq_pure (v := ?_) rfl (by rfl) (fun W hW => ?_) ?_
    rotate_left
    · clear hW
      go_simp
      try rw [if_neg hz2]
      try with_reducible rfl
    simp only [Act.put, List.setIfInBounds_toArray, List.set_cons_zero, List.set_cons_succ]
  refine seq_done ?_
  obtain ⟨P, hP⟩ : ∃ P : Nat, P = 2 * p := ⟨_, rfl⟩
  obtain ⟨Q, hQ⟩ : ∃ Q : Nat, Q = 2 * q := ⟨_, rfl⟩
  have hP2 : 2 * (p : Int) = (P : Int) := by omega
  have hQ2 : 2 * (q : Int) = (Q : Int) := by omega
  rw [hP2, hQ2]
  have hPn : P + 1 < n := by omega
  have hQn : Q + 1 < n := by omega
  have HPE := Lib.hid (show P % 2 = 0 by omega)
  have HQE := Lib.hid (show Q % 2 = 0 by omega)
  clear hP hQ hP2 hQ2 tp tq ep eq wp wq wi wj wp0 wq0 hz hz2 hpm hqm hm0 hmn
  obtain ⟨b, o, rfl, hb, hcell⟩ := HA2.out.2 (by omega)
  have hL := HN.out
  have a1 := HAC.out.set_ P l[Q]
  have a2 := a1.1.set_ (P + 1) l[Q + 1]
  have a3 := a2.1.set_ Q l[P]
  have a4 := a3.1.set_ (Q + 1) l[P + 1]
  have f1 := HAC.out.free P
  have f2 := HAC.out.free (P + 1)
  have f3 := HAC.out.free Q
  have f4 := HAC.out.free (Q + 1)
  obtain ⟨y1, k1⟩ : ∃ y : Int, w2.cell? ⟨g, P, none⟩ = some (.int .u8 y) := ⟨_, HAC.out.cell P (by omega)⟩
  obtain ⟨y2, k2⟩ : ∃ y : Int, (w2.setCell ⟨g, P, none⟩ (.int .u8 (l[Q].toNat : Int))).cell? ⟨g, P + 1, none⟩ = some (.int .u8 y) := ⟨_, a1.1.cell (P + 1) (by simp; omega)⟩
  obtain ⟨y3, k3⟩ : ∃ y : Int, ((w2.setCell ⟨g, P, none⟩ (.int .u8 (l[Q].toNat : Int))).setCell ⟨g, P + 1, none⟩ (.int .u8 (l[Q + 1].toNat : Int))).cell? ⟨g, Q, none⟩ = some (.int .u8 y) := ⟨_, a2.1.cell Q (by simp; omega)⟩
  obtain ⟨y4, k4⟩ : ∃ y : Int, (((w2.setCell ⟨g, P, none⟩ (.int .u8 (l[Q].toNat : Int))).setCell ⟨g, P + 1, none⟩ (.int .u8 (l[Q + 1].toNat : Int))).setCell ⟨g, Q, none⟩ (.int .u8 (l[P].toNat : Int))).cell? ⟨g, Q + 1, none⟩ = some (.int .u8 y) := ⟨_, a3.1.cell (Q + 1) (by simp; omega)⟩
  have hne : b ≠ g := by omega
  have r1 := Reads.set_ (show Reads b o l w2 from hcell) hne P (.int .u8 (l[Q].toNat : Int))
  have r2 := r1.set_ hne (P + 1) (.int .u8 (l[Q + 1].toNat : Int))
  have r3 := r2.set_ hne Q (.int .u8 (l[P].toNat : Int))
  have r4 := r3.set_ hne (Q + 1) (.int .u8 (l[P + 1].toNat : Int))
  have HR1 := Lib.hid r1
  have HR2 := Lib.hid r2
  have HR3 := Lib.hid r3
  have HR4 := Lib.hid r4
  have HA4 : Hid (Acc _ _ _ _ (swap l P Q (by omega) (by omega))) := Lib.hid a4.1
  have hgw : w.heap.size ≤ g := Nat.le_trans B1.out.size hg
  have HB4 := Lib.hid (bel_upd (bel_upd (bel_upd (bel_upd B2.out a1.2 (Nat.le_refl _) hgw) a2.2 (Nat.le_refl _) hgw) a3.2 (Nat.le_refl _) hgw) a4.2 (Nat.le_refl _) hgw)
  have HC0 := Lib.hid hcell
  clear r1 r2 r3 r4 a1 a2 a3 a4 hcell
  have wP : IntKind.i64.wrap ((P : Int) + 1) = (P : Int) + 1 := IntWalk.i64_in _ (by omega)
  have wQ : IntKind.i64.wrap ((Q : Int) + 1) = (Q : Int) + 1 := IntWalk.i64_in _ (by omega)
  have zP : (0 : Int) ≤ (P : Int) := by omega
  have zQ : (0 : Int) ≤ (Q : Int) := by omega
  have zP1 : (0 : Int) ≤ (P : Int) + 1 := by omega
  have zQ1 : (0 : Int) ≤ (Q : Int) + 1 := by omega
  have lP : P < n := by omega
  have lQ : Q < n := by omega
  have iP : (P : Int) < (n : Int) := by omega
  have iQ : (Q : Int) < (n : Int) := by omega
  have iP1 : (P : Int) + 1 < (n : Int) := by omega
  have iQ1 : (Q : Int) + 1 < (n : Int) := by omega
  have tP1 : ((P : Int) + 1).toNat = P + 1 := by omega
  have tQ1 : ((Q : Int) + 1).toNat = Q + 1 := by omega
  go_wp2_with fail
  refine region_seq (Reads b o l)
    [(0, true), (1, true), (2, true), (3, true), (4, true), (5, true), (6, true), (7, true), (8, true), (9, true), (10, true), (11, true), (12, true), (13, true), (14, true), (15, true), (16, true), (17, true), (18, true), (19, true), (20, true), (21, true), (22, true), (23, true), (24, true), (25, true), (26, true), (27, true), (28, true), (29, false), (30, true), (31, false), (32, true), (33, false), (34, true), (35, false)]
    (by kernel_rfl) (by kernel_rfl) (by kernel_rfl) (by kernel_rfl) (fun _ _ _ _ _ h => h) HC0.out ?_
  repeat
    refine seq_pure (v := ?_) rfl (by rfl) (fun W hW => ?_) ?_
    rotate_left
    · have c1 : W.cell? ⟨b, o + P, none⟩ = some (.int .u8 (l[P].toNat : Int)) := hW P (by omega)
      have c2 : W.cell? ⟨b, o + (P + 1), none⟩ = some (.int .u8 (l[P + 1].toNat : Int)) := hW (P + 1) (by omega)
      have c3 : W.cell? ⟨b, o + Q, none⟩ = some (.int .u8 (l[Q].toNat : Int)) := hW Q (by omega)
      have c4 : W.cell? ⟨b, o + (Q + 1), none⟩ = some (.int .u8 (l[Q + 1].toNat : Int)) := hW (Q + 1) (by omega)
      clear hW
      go_simp
      try with_reducible rfl
    simp only [Act.put, List.setIfInBounds_toArray, List.set_cons_zero, List.set_cons_succ]
  refine seq_make rfl (by rfl) (fun K hK => ?_)
  go_simp
  refine hK _ _ (Reads b o l) (fun W h => h) HR1.out ?_
  clear hK K
  repeat
    refine seq_pure (v := ?_) rfl (by rfl) (fun W hW => ?_) ?_
    rotate_left
    · clear hW
      go_simp
      try with_reducible rfl
    simp only [Act.put, List.setIfInBounds_toArray, List.set_cons_zero, List.set_cons_succ]
  refine seq_make rfl (by rfl) (fun K hK => ?_)
  go_simp
  refine hK _ _ (Reads b o l) (fun W h => h) HR2.out ?_
  clear hK K
  repeat
    refine seq_pure (v := ?_) rfl (by rfl) (fun W hW => ?_) ?_
    rotate_left
    · clear hW
      go_simp
      try with_reducible rfl
    simp only [Act.put, List.setIfInBounds_toArray, List.set_cons_zero, List.set_cons_succ]
  refine seq_make rfl (by rfl) (fun K hK => ?_)
  go_simp
  refine hK _ _ (Reads b o l) (fun W h => h) HR3.out ?_
  clear hK K
  repeat
    refine seq_pure (v := ?_) rfl (by rfl) (fun W hW => ?_) ?_
    rotate_left
    · clear hW
      go_simp
      try with_reducible rfl
    simp only [Act.put, List.setIfInBounds_toArray, List.set_cons_zero, List.set_cons_succ]
  refine seq_make rfl (by rfl) (fun K hK => ?_)
  go_simp
  refine hK _ _ (Reads b o l) (fun W h => h) HR4.out ?_
  clear hK K
  refine seq_done ?_
  clear f1 f2 f3 f4 k1 k2 k3 k4
  obtain ⟨w5, hw5⟩ : ∃ w5, w5 = ((((w2.setCell ⟨g, P, none⟩ (.int .u8 (l[Q].toNat : Int))).setCell ⟨g, P + 1, none⟩ (.int .u8 (l[Q + 1].toNat : Int))).setCell ⟨g, Q, none⟩ (.int .u8 (l[P].toNat : Int))).setCell ⟨g, Q + 1, none⟩ (.int .u8 (l[P + 1].toNat : Int))).drew.drew := ⟨_, rfl⟩
  have T5 : Bts w5 w5.heap.size (some ⟨g, 0, none⟩) n (swap l P Q (by omega) (by omega)) := by
    rw [hw5]; exact bts_of HA4.out ((swap_length _ _ _ _ _).trans hL)
  have U5 : Bts w5 w5.heap.size (some ⟨b, o, none⟩) n l := ⟨hL, fun _ => ⟨b, o, rfl, by rw [hw5]; have := HAC.out.ge (k := g) rfl; simp [World.setCell, World.drew]; omega, by rw [hw5]; exact HR4.out⟩⟩
  have B5 : Below w.heap.size w w5 := by rw [hw5]; exact bel_drew2 HB4.out
  rw [← hw5]
  have HT5 := Lib.hid T5
  have HU5 := Lib.hid U5
  have HB5 := Lib.hid B5
  have HS := Lib.hid (swap_tot l P Q (by omega) (by omega) HPE.out HQE.out)
  clear T5 U5 B5 hw5 HA4 HR1 HR2 HR3 HR4 HB4
  generalize swap l P Q _ _ = z at *
  go_wp2_with fail
  ((with_reducible refine (of_calls _ n d2 z w5 HT5.out (by omega) hd2).mono ?_))
  rintro e w6 ⟨rfl, b6⟩
  have HU6 := Lib.hid ((HU5.out.below b6).more b6.size)
  have B6 := Lib.hid (bel_more HB5.out (Nat.le_refl _) b6)
  clear b6
  have E : ofL z = ofL l := by unfold ofL; rw [HS.out]
  rw [E]
  clear E
  go_wp2_with fail
  ((with_reducible refine (of_calls _ n c l w6 HU6.out (by omega) hc).mono ?_))
  rintro e w7 ⟨rfl, b7⟩
  have B7 := Lib.hid (bel_more B6.out (Nat.le_refl _) b7)
  clear b7
  go_wp2
  go_ret
  exact ⟨rfl, B7.out⟩

theorem order_walk (a : Option Addr) (n c : Nat) (i j : Int) (w : World) (h : n ≤ maxLen ∧ ∃ l, Bts w w.heap.size a n l) (hc : n ≤ c) (hi : 0 ≤ i ∧ i < 65536) (hj : 0 ≤ j ∧ j < 65536) :
    Calls Try.prog 7 #[.slice a n c, .int .u16 i, .int .u16 j] w fun e w' => e = .returned (.bool true) ∧ Below w.heap.size w w' := by
  obtain ⟨hm, l, hl⟩ := h
  by_cases hn : n ≤ 4096 ∧ 2 ≤ n
  · have := order_ok a n c l i.toNat j.toNat w hl hn.1 hn.2 hc (by omega) (by omega)
    rwa [Int.toNat_of_nonneg hi.1, Int.toNat_of_nonneg hj.1] at this
  · exact order_away a n c i j w (by omega) hm
end Go.Proofs.Yteadmbfbkgbhpaa
