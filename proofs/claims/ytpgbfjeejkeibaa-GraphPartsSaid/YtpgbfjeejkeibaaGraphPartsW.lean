/-
  The walk of the statement GraphParts: for any network, any list of nodes and any place to cut it answers true, and nothing that was there has turned. No condition.
-/
import Derived.Test.YtpgbfjeejkeibaaGraphAlive
import Derived.Test.YtpgbfjeejkeibaaGraphL
import Derived.Deep.DeepCutAuto
namespace Go.Proofs.Ytpgbfjeejkeibaa
open Go.RowKit

set_option maxRecDepth 100000 in
set_option maxHeartbeats 3200000 in
theorem parts_walk (n : Int) (p q : Option Addr) (m c k d : Nat) (cut : Int) (w : World) (hn : -9223372036854775808 ≤ n ∧ n < 9223372036854775808) (h : m ≤ c ∧ c ≤ maxLen ∧ ∃ L, Row lkc w w.heap.size p m L)
    (h2 : k ≤ d ∧ d ≤ maxLen ∧ ∃ r, Row ei w w.heap.size q k r) (hcut : 0 ≤ cut ∧ cut < 256) :
    Calls Try.prog 7 #[.agg #[.int .i64 n, .slice p m c], .slice q k d, .int .u8 cut] w fun e w' => e = .returned (.bool true) ∧ Below w.heap.size w w' := by
  obtain ⟨_, hcm, L, hR⟩ := h
  obtain ⟨hkd, hdm, r, hQ⟩ := h2
  have b0 := bel_new (Below.refl w.heap.size w) (.cells #[.int .i64 n, .slice p m c] 45)
  have B0 := Lib.hid b0
  have Q0 := Lib.hid (Blk.new w 45 [.int .i64 n, .slice p m c])
  have RL0 := Lib.hid ((hR.below b0).more b0.size)
  have RQ0 := Lib.hid ((hQ.below b0).more b0.size)
  have HL := Lib.hid hR.1
  have HQL := Lib.hid hQ.1
  have hb63 : m ≤ 9223372036854775807 := by simp only [maxLen] at hcm; omega
  have hk63 : k ≤ 9223372036854775807 := by simp only [maxLen] at hdm; omega
  have HKD := Lib.hid hkd
  have HNB := Lib.hid hn
  obtain ⟨ct, rfl⟩ : ∃ q : Nat, cut = (q : Int) := ⟨cut.toNat, by omega⟩
  have hct : ct < 256 := by omega
  clear hR hcm hQ hdm hkd b0 hn hcut
  go_enter Try.func7, Try.ntmps7
  go_upto_region 1 with fail
  generalize hw0 : w.alloc (.cells #[.int .i64 n, .slice p m c] 45) = w0 at *
  clear hw0
  go_wp2_with fail
  ((with_reducible refine (alive9_calls w0).mono ?_))
  rintro e w1 ⟨rfl, b1⟩
  have B1 := Lib.hid (bel_more B0.out (Nat.le_refl _) b1)
  have RL := Lib.hid ((RL0.out.below b1).more b1.size)
  have RQ := Lib.hid ((RQ0.out.below b1).more b1.size)
  have hq1 : Blk w1 w.heap.size 45 [.int .i64 n, .slice p m c] := Blk.below Q0.out b1
  have hc01 : w1.cell? ⟨w.heap.size, 0, none⟩ = some (.int .i64 n) ∧ w1.cell? ⟨w.heap.size, 1, none⟩ = some (.slice p m c) := ⟨hq1.cell 0, hq1.cell 1⟩
  have HC := Lib.hid hc01
  clear b1 hq1 hc01 B0 RL0 RQ0 Q0
  go_wp2_with fail
  refine region_seq (fun W => W.cell? ⟨w.heap.size, 0, none⟩ = some (.int .i64 n) ∧ W.cell? ⟨w.heap.size, 1, none⟩ = some (.slice p m c)) [(0, true), (1, true), (2, true), (3, true), (4, true), (5, true)]
    (by kernel_rfl) (by kernel_rfl) (by kernel_rfl) (by kernel_rfl) (fun _ _ _ _ _ h => h) HC.out ?_
  repeat
    refine seq_pure (v := ?_) rfl (by rfl) (fun W hW => ?_) ?_
    rotate_left
    · have t1 := hW.1
      have t2 := hW.2
      clear hW
      go_simp
      try with_reducible rfl
    simp only [Act.put, List.setIfInBounds_toArray, List.set_cons_zero, List.set_cons_succ]
  refine seq_done ?_
  have B2 := Lib.hid (bel_drewN B1.out 1)
  have RL2 := Lib.hid (show Row lkc w1.drew w1.drew.heap.size p m L from RL.out)
  have RQ2 := Lib.hid (show Row ei w1.drew w1.drew.heap.size q k r from RQ.out)
  have B2' := Lib.hid (show Below w.heap.size w w1.drew from B2.out)
  clear HC B1 RL RQ B2
  generalize w1.drew = w2 at *
  go_wp2_with fail
  refine (small_calls p m c _ L w2 RL2.out hb63).mono ?_
  rintro e w3 ⟨b, rfl, hb, rfl⟩
  cases b with
  | false =>
    go_wp2_with fail
    all_goals
      go_ret
      exact ⟨rfl, B2'.out⟩
  | true =>
  obtain ⟨hsm, hn200⟩ := hb rfl
  have HSM := Lib.hid hsm
  clear hb hsm
  by_cases hm2 : 200 < k
  · have hm3 : (200 : Int) < (k : Int) := by omega
    go_wp2_with fail
    all_goals
      go_ret
      exact ⟨rfl, B2'.out⟩
  have hm3 : ¬ (200 : Int) < (k : Int) := by omega
  go_wp2_with fail
  refine (route_calls p q m c k d _ L r w3 RL2.out RQ2.out (Nat.le_refl _) (by omega) HKD.out HSM.out).mono ?_
  rintro e w4 ⟨b4, ⟨hok, rfl⟩ | ⟨hno, rfl⟩⟩
  rotate_left
  · have B4 := Lib.hid (bel_more B2'.out (Nat.le_refl _) b4)
    clear b4
    go_wp2_with fail
    go_ret
    exact ⟨rfl, B4.out⟩
  have B4 := Lib.hid (bel_more B2'.out (Nat.le_refl _) b4)
  have RL4 := Lib.hid ((RL2.out.below b4).more b4.size)
  have RQ4 := Lib.hid ((RQ2.out.below b4).more b4.size)
  have HOK := Lib.hid hok
  have hk2 : 2 ≤ k := by have := hok.1; have := HQL.out; omega
  have hk16 : k ≤ 16 := by have := hok.2.1; have := HQL.out; omega
  have hcs := cst_small HSM.out r r.length
  obtain ⟨all, hall⟩ : ∃ v, v = cst L r r.length := ⟨_, rfl⟩
  rw [← hall] at hcs ⊢
  have HALL := Lib.hid hall
  clear b4 hok hm3 hall
  go_wp2_with fail
  refine (check_calls n p m c L w4 RL4.out HNB.out.1 (by have := HNB.out; omega) (by omega)).mono ?_
  rintro e w5 ⟨rfl, b5⟩
  have B5 := Lib.hid (bel_more B4.out (Nat.le_refl _) b5)
  have RL5 := Lib.hid ((RL4.out.below b5).more b5.size)
  have RQ5 := Lib.hid ((RQ4.out.below b5).more b5.size)
  clear b5
  have HRB := Lib.hid (show ∃ b o, q = some ⟨b, o, none⟩ ∧ ∀ W, Below w5.heap.size w5 W → ∀ (i : Nat) (hi : i < r.length), W.cell? ⟨b, o + i, none⟩ = some (.int .i64 (r.getD i 0)) by
    obtain ⟨b, o, e, hb, hc⟩ := row_int RQ5.out (by omega)
    refine ⟨b, o, e, fun W hW i hi => ?_⟩
    rw [World.cell?_of_block (w := w5) (hW.block b hb), hc i hi, List.getD_eq_getElem?_getD, List.getElem?_eq_getElem hi]; rfl)
  obtain ⟨b, o, rfl, hrc⟩ := HRB.out
  have HRC := Lib.hid hrc
  clear hrc HRB
  go_upto_if 46 with fail
  go_cut [] (fun wx => Below w5.heap.size w5 wx)
  case first =>
    by_cases hz : chk n L = 0
    case neg =>
      have hzb : (chk n L == 0) = false := by simp [hz]
      clear hz
      go_wp2_with fail
      go_meet
      exact Below.refl _ _
    case pos =>
    have hzb : (chk n L == 0) = true := by simp [hz]
    obtain ⟨z1, z2, z3, z4⟩ := chk_zero hz
    obtain ⟨N, rfl⟩ : ∃ N : Nat, n = (N : Int) := ⟨n.toNat, by omega⟩
    have hE := net_ends z4
    have hlen := HQL.out
    have hin0 := route_in HOK.out hE 0 (by omega)
    have hcell0 := HRC.out w5 (Below.refl _ _) 0 (by omega)
    rw [Nat.add_zero] at hcell0
    have HIN := Lib.hid (fun j hj => route_in HOK.out hE j hj)
    have hz0 := HNB.out
    have HZ := Lib.hid hz
    clear hz z3 z4 hE
    go_wp2_with fail
    refine (reach_calls (N : Int) (r.getD 0 0) p m c L w5 RL5.out (by omega) (by omega) (by omega)).mono ?_
    rintro e w6 ⟨b6, ⟨hno, _⟩ | ⟨_, _, _, rb, bs, rfl, hrb, hM, hbl, hiff⟩⟩
    · exact absurd ⟨HZ.out, hin0.1, hin0.2⟩ hno
    have HM := Lib.hid hM
    have HIF := Lib.hid hiff
    have B6 := Lib.hid b6
    have hbN : bs.length = N := by omega
    have HBN := Lib.hid hbN
    clear hM hiff b6 hcell0 hin0 hbl hzb hbN
    go_wp2_with fail
    go_loopw [55] (fun t wr => ∃ i : Nat, i ≤ k ∧ t = .int .i64 (i : Int) ∧ wr = w6) (fun t wr => k - (intOf t).toNat)
    case atStart => exact ⟨0, Nat.zero_le _, rfl, rfl⟩
    case round =>
      obtain ⟨i, hi, rfl, rfl⟩ := hrel
      by_cases hlt : i < k
      · have hcell := HRC.out wr B6.out i (by omega)
        obtain ⟨hx0, hx1⟩ := HIN.out i (by omega)
        have hbat : bat bs (r.getD i 0) = true := (HIF.out _ hx0 hx1).2 (route_reach HOK.out i (by omega))
        have hlb := HBN.out
        have c1 := HM.out.cell (r.getD i 0) hx0 (by omega)
        rw [hbat] at c1
        obtain ⟨x, hx⟩ : ∃ x : Nat, r.getD i 0 = (x : Int) := ⟨(r.getD i 0).toNat, by omega⟩
        rw [hx] at hcell c1 hx1
        rw [Int.toNat_natCast] at c1
        have g1 : decide ((x : Int) < 0) = false := by simp
        have g2 : ¬ ((bs.length : Nat) : Int) ≤ (x : Int) := by omega
        have g3 : x < bs.length := by omega
        have g4 : ¬ bs.length ≤ x := by omega
        clear hbat hx hx0 hlb
        go_wp2_with fail
        go_roundw
        case rel => exact ⟨i + 1, by omega, rfl, trivial⟩
        case measure => simp [intOf]; omega
      · go_wp2_with fail
        go_meet
        exact B6.out
  case rest =>
    have HBC := Lib.hid hcut
    clear hcut
    obtain ⟨kk, hkk⟩ : ∃ q, q = ct % k := ⟨_, rfl⟩
    have hkl : kk < k := by rw [hkk]; exact Nat.mod_lt _ (by omega)
    have ht : (ct : Int).tmod (k : Int) = (kk : Int) := by rw [hkk]; rfl
    have hw8 : IntKind.i64.wrap (ct : Int) = (ct : Int) := IntWalk.i64_in _ (by omega)
    have hk0 : ((k : Int) == 0) = false := by rw [beq_eq_false_iff_ne]; omega
    have hlen := HQL.out
    have B7 := Lib.hid (bel_more B5.out (Nat.le_refl _) HBC.out)
    have RL7 := Lib.hid ((RL5.out.below HBC.out).more HBC.out.size)
    have RQ7 := Lib.hid ((RQ5.out.below HBC.out).more HBC.out.size)
    clear hkk
    by_cases h0 : kk = 0
    · have h0b : ((kk : Int) == 0) = true := by simp [h0]
      clear h0
      go_wp2_with fail
      all_goals
        go_ret
        exact ⟨rfl, B7.out⟩
    have h0b : ((kk : Int) == 0) = false := by rw [beq_eq_false_iff_ne]; omega
    by_cases h1 : kk = k - 1
    · have h1b : ((kk : Int) == (k : Int) - 1) = true := by simp; omega
      clear h1
      go_wp2_with fail
      all_goals
        go_ret
        exact ⟨rfl, B7.out⟩
    have h1b : ((kk : Int) == (k : Int) - 1) = false := by rw [beq_eq_false_iff_ne]; omega
    have HKK := Lib.hid (And.intro h0 h1)
    obtain ⟨k1, hk1⟩ : ∃ q, q = kk + 1 := ⟨_, rfl⟩
    have hk1i : (kk : Int) + 1 = (k1 : Int) := by omega
    have hkd := HKD.out
    have hk1d : k1 ≤ d := by omega
    have hkkd : ¬ d = kk := by omega
    have HK1 := Lib.hid hk1
    have r1 := RouteOk.front HOK.out (k := kk) (by omega) (by omega)
    have r2 := RouteOk.back HOK.out (k := kk) (by omega)
    rw [← hk1] at r1
    have HR12 := Lib.hid (And.intro r1 r2)
    clear h0 h1 hk1 r1 r2 hkd
    have rw1 := row_front RQ7.out k1 (by omega)
    have rw2 := row_back RQ7.out kk (by omega)
    rw [show kk + 1 = k1 by have := HK1.out; omega] at *
    have RW1 := Lib.hid rw1
    have RW2 := Lib.hid rw2
    have hkd2 : kk ≤ d := by omega
    have hkd3 : kk ≤ k := by omega
    clear rw1 rw2
    go_wp2_with fail
    refine (route_calls p (some ⟨b, o, none⟩) m c k1 d _ L (r.take k1) wc RL7.out RW1.out (Nat.le_refl _) (by omega) hk1d HSM.out).mono ?_
    rintro e w8 ⟨b8, ⟨_, rfl⟩ | ⟨hno, _⟩⟩
    rotate_left
    · exact absurd HR12.out.1 hno
    have B8 := Lib.hid (bel_more B7.out (Nat.le_refl _) b8)
    have RL8 := Lib.hid ((RL7.out.below b8).more b8.size)
    have RW8 := Lib.hid ((RW2.out.below b8).more b8.size)
    have hl1 : (r.take k1).length = k1 := by rw [List.length_take]; omega
    have hc1 := cst_take L r k1 k1 (Nat.le_refl _)
    have hc3 := cst_drop L r kk (k - kk - 1)
    have hl2 : (r.drop kk).length = k - kk := by rw [List.length_drop]; omega
    rw [hl1, hc1]
    have HL2 := Lib.hid hl2
    have hs1 := cst_small HSM.out r k1
    have hs2 := cst_small HSM.out (r.drop kk) (k - kk)
    rw [show kk + (k - kk - 1) + 1 = k by omega, show k - kk - 1 + 1 = k - kk by omega, show kk + 1 = k1 by have := HK1.out; omega] at hc3
    obtain ⟨v1, hv1⟩ : ∃ v, v = cst L r k1 := ⟨_, rfl⟩
    obtain ⟨v2, hv2⟩ : ∃ v, v = cst L (r.drop kk) (k - kk) := ⟨_, rfl⟩
    rw [← hv1] at hs1 hc3 ⊢
    rw [← hv2] at hs2 hc3
    have hall2 : all = v1 + v2 := by rw [HALL.out, hlen]; exact hc3
    have HV2 := Lib.hid hv2
    have HAL := Lib.hid hall2
    have hsum : -9223372036854775808 ≤ v1 + v2 ∧ v1 + v2 ≤ 9223372036854775807 := by omega
    clear b8 hl1 hc1 hc3 hl2 hv1 hv2 hall2 hs1 hs2
    go_wp2_with fail
    refine (route_calls p (some ⟨b, o + kk, none⟩) m c (k - kk) (d - kk) _ L (r.drop kk) w8 RL8.out RW8.out (Nat.le_refl _) (by omega) (by have := HKD.out; omega) HSM.out).mono ?_
    rintro e w9 ⟨b9, ⟨_, rfl⟩ | ⟨hno, _⟩⟩
    rotate_left
    · exact absurd HR12.out.2 hno
    have B9 := Lib.hid (bel_more B8.out (Nat.le_refl _) b9)
    rw [HL2.out, ← HV2.out]
    have hfin : ((v1 + v2 : Int) == all) = true := by rw [HAL.out]; simp
    clear b9
    go_wp2_with fail
    go_ret
    exact ⟨by first | rfl | (rw [hfin]; rfl), B9.out⟩
end Go.Proofs.Ytpgbfjeejkeibaa
