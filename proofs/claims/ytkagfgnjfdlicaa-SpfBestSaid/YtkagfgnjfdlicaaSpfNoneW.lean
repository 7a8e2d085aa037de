/-
  The law SpfNone, walked: under what the calls of spf are to answer, the answer is true for all arguments, and nothing that was there has turned.
-/
import Derived.Test.YtkagfgnjfdlicaaSpfC
namespace Go.Proofs.Ytkagfgnjfdlicaa
set_option maxRecDepth 100000
open Go.RowKit

theorem small_of_net {n : Int} {L : List Lk} (h : NetOk n L) : SmallL L := fun z hz => by have := h z hz; omega
/-- A route between two nodes of a network. -/
theorem route_good {n : Int} {L : List Lk} {r : List Int} (hc : chk n L = 0) (h : RouteOk L r) : GoodQ n L (r.getD 0 0) (r.getD (r.length - 1) 0) ∧ Wy L (r.getD 0 0) (r.getD (r.length - 1) 0) (cst L r r.length) r := by
  have hnet := net_of_chk hc
  have hw := route_wy_all h
  obtain ⟨N, rfl⟩ : ∃ N : Nat, n = (N : Int) := ⟨n.toNat, by omega⟩
  have hE : EndsIn N L := fun z hz => by have := hnet.2.2.2 z hz; omega
  have h2 := h.1
  have ha := route_in h hE 0 (by omega)
  have hb := route_in h hE (r.length - 1) (by omega)
  refine ⟨⟨hc, ha.1, ha.2, hb.1, hb.2, fun e => ?_⟩, hw⟩
  have hs := (h.2.2 (r.length - 1) (by omega) (by omega)).2
  rw [e] at hs
  refine hs ?_
  refine List.mem_of_getElem? (i := 0) ?_
  rw [List.getElem?_take_of_lt (by omega), List.getElem?_eq_getElem (by omega)]
  simp [List.getD_eq_getElem?_getD, show 0 < r.length by omega]

set_option maxRecDepth 100000 in
set_option maxHeartbeats 1600000 in
theorem none_walk (hB : BetterOk) (hS : BestOk) (n : Int) (n1 : -9223372036854775808 ≤ n) (n2 : n ≤ 9223372036854775807) (p q : Option Addr) (m c k d : Nat) (w : World) (h : m ≤ c ∧ c ≤ maxLen ∧ ∃ L, Row lkc w w.heap.size p m L) (h2 : k ≤ d ∧ d ≤ maxLen ∧ ∃ r, Row ei w w.heap.size q k r) :
    Calls Try.prog 6 #[.int .i64 n, .slice p m c, .slice q k d] w fun e w' => e = .returned (.bool true) ∧ Below w.heap.size w w' := by
  have HNB := Lib.hid (And.intro n1 n2)
  clear n1 n2
  obtain ⟨_, hcm, L, hR⟩ := h
  obtain ⟨hkd, hdm, r, hQ⟩ := h2
  have HR := Lib.hid hR
  have HQ := Lib.hid hQ
  have HS := Lib.hid hS
  have ha := alive11_calls hB hS w
  have hk63 : k ≤ 9223372036854775807 := by unfold maxLen at hdm; omega
  unfold maxLen at hcm hdm
  clear hR hQ hB hS
  go_enter Try.func6, Try.ntmps6
  go_wp2_with fail
  ((with_reducible refine ha.mono ?_))
  rintro e w1 ⟨rfl, hb1⟩
  have B1 := Lib.hid hb1
  clear ha hb1
  by_cases h1 : 100 < m
  · have g1 : (100 : Int) < (m : Int) := by omega
    go_wp2
    go_ret
    exact ⟨rfl, B1.out⟩
  by_cases h2 : 100 < k
  · have g1 : ¬ (100 : Int) < (m : Int) := by omega
    have g2 : (100 : Int) < (k : Int) := by omega
    go_wp2
    go_ret
    exact ⟨rfl, B1.out⟩
  have g1 : decide ((100 : Int) < (m : Int)) = false := by simp; omega
  have g2 : decide ((100 : Int) < (k : Int)) = false := by simp; omega
  have g3 : decide (100 < m) = false := by simp; omega
  have g4 : decide (100 < k) = false := by simp; omega
  have hck := rcheck_calls n p m c L w1 ((HR.out.below B1.out).more B1.out.size) (by omega)
  go_wp2_with fail
  ((with_reducible refine hck.mono ?_))
  rintro e w2 ⟨rfl, hb2⟩
  have B2 := Lib.hid (B1.out.trans (hb2.mono B1.out.size))
  clear hck hb2
  by_cases hc : chk n L = 0
  case neg =>
    generalize chk n L = e0 at hc ⊢
    have hne : (e0 != 0) = true := by simpa using hc
    go_wp2
    go_ret
    exact ⟨rfl, B2.out⟩
  have HC := Lib.hid hc
  rw [hc]
  have hnet := net_of_chk hc
  have R2 := Lib.hid (show Row lkc w2 w2.heap.size p m L from (HR.out.below B2.out).more B2.out.size)
  have Q2 := Lib.hid (show Row ei w2 w2.heap.size q k r from (HQ.out.below B2.out).more B2.out.size)
  have hrr := rroute_calls p q m c k d _ _ L r w2 R2.out Q2.out (by omega) hkd hk63 (small_of_net hnet.2.2.2)
  clear hc hnet
  go_wp2_with fail
  ((with_reducible refine hrr.mono ?_))
  rintro e w3 ⟨⟨kd, rfl⟩, ⟨hok, rfl⟩ | ⟨_, rfl⟩⟩
  rotate_left
  · go_wp2
    go_ret
    exact ⟨rfl, bel_drewN B2.out kd⟩
  clear hrr
  have hgood := route_good HC.out hok
  have hkr : r.length = k := Q2.out.1
  have hk2 := hok.1
  obtain ⟨b, o, hqe, hbq, hcell⟩ := row_int Q2.out (by omega)
  subst hqe
  have d0 := hcell 0 (by omega)
  have d1 := hcell (k - 1) (by omega)
  have e0 : r[0]'(by omega) = r.getD 0 0 := by simp [List.getD_eq_getElem?_getD, show 0 < r.length by omega]
  have e1 : r[k - 1]'(by omega) = r.getD (r.length - 1) 0 := by
    have e2 : r.length - 1 = k - 1 := by omega
    simp [List.getD_eq_getElem?_getD, e2, show k - 1 < r.length by omega]
  rw [e0] at d0
  rw [e1] at d1
  generalize hx0 : r.getD 0 0 = x0 at d0 hgood
  generalize hx1 : r.getD (r.length - 1) 0 = x1 at d1 hgood
  obtain ⟨hg, hw⟩ := hgood
  generalize hcs : cst L r r.length = mm at hw ⊢
  obtain ⟨k1, hk1⟩ : ∃ k1, k1 = k - 1 := ⟨_, rfl⟩
  rw [← hk1] at d1
  have x2 : (k : Int) - 1 = (k1 : Int) := by omega
  have x3 : (k1 : Int) < (k : Int) := by omega
  have x6 : IntKind.i64.wrap (k1 : Int) = (k1 : Int) := by rw [IntWalk.i64_in _ (by omega)]
  have x4 : (0 : Int) < (k : Int) := by omega
  have x5 : 0 < k := by omega
  have hb3 : Below w.heap.size w (w2.drewN kd) := bel_drewN B2.out kd
  have hr3 : Row lkc (w2.drewN kd) (w2.drewN kd).heap.size p m L := R2.out
  have hq3 : Row ei (w2.drewN kd) (w2.drewN kd).heap.size (some ⟨b, o, none⟩) k r := Q2.out
  have d0' : (w2.drewN kd).cell? ⟨b, o, none⟩ = some (.int .i64 x0) := by simpa using d0
  have d1' : (w2.drewN kd).cell? ⟨b, o + k1, none⟩ = some (.int .i64 x1) := d1
  have hbq' : b < (w2.drewN kd).heap.size := hbq
  generalize w2.drewN kd = w3 at hb3 hr3 hq3 d0' d1' hbq' ⊢
  have B3 := Lib.hid hb3
  have R3 := Lib.hid hr3
  have Q3 := Lib.hid hq3
  have G := Lib.hid (And.intro hg hw)
  have DC := Lib.hid (show ∀ W, Below w3.heap.size w3 W → W.cell? ⟨b, o, none⟩ = some (.int .i64 x0) ∧ W.cell? ⟨b, o + k1, none⟩ = some (.int .i64 x1) from fun W hW => ⟨(hW.cell (p := ⟨b, o, none⟩) hbq').trans d0', (hW.cell (p := ⟨b, o + k1, none⟩) hbq').trans d1'⟩)
  have KK := Lib.hid hk1
  have KR := Lib.hid hkr
  clear hb3 hr3 hq3 hg hw d0 d1 d0' d1' hbq' hbq hcell e0 e1 hx0 hx1 hcs hk1 hkr hk2 hok
  go_upto_region 8 with fail
  refine region_seq (fun W => Below w3.heap.size w3 W) [(0, true), (1, true), (2, true), (3, true), (4, true), (5, true), (6, true), (7, true), (8, true), (9, true), (10, true), (11, false), (12, true), (13, true), (14, true), (15, true), (16, true), (17, true), (18, true)]
    (by kernel_rfl) (by kernel_rfl) (by kernel_rfl) (by kernel_rfl) (fun _ _ _ _ _ h => h) (Below.refl _ _).drew ?_
  repeat
    refine seq_pure (v := ?_) rfl (by rfl) (fun W hW => ?_) ?_
    rotate_left
    · have t0 := (DC.out W hW).1
      have t1 := (DC.out W hW).2
      clear hW
      go_simp
      with_reducible rfl
    simp only [Act.put, List.setIfInBounds_toArray, List.set_cons_zero, List.set_cons_succ]
  refine seq_make rfl (by rfl) (fun K hK => ?_)
  go_simp
  have hcb := HS.out n p m c L x0 x1 w3.drew HNB.out.1 HNB.out.2 (show Row lkc w3.drew w3.drew.heap.size p m L from R3.out) (by omega)
  ((with_reducible refine hcb.mono ?_))
  rintro e w4 ⟨hb4, hcase⟩
  have hb4' : Below w3.heap.size w3 w4 := below_of_drew hb4
  obtain ⟨A, c', cc, rr, hbest, he, hlc, hrow⟩ : ∃ A c' cc rr, BestW L x0 x1 cc rr ∧ e = .returned (.tuple #[.slice A rr.length c', .int .i64 cc, .int .i64 0]) ∧ rr.length ≤ c' ∧ Row ei w4 w4.heap.size A rr.length rr := by
    rcases hcase with ⟨h1, _⟩ | ⟨_, h1, _⟩ | ⟨_, h1⟩
    · exact absurd G.out.1 h1
    · exact absurd G.out.2 (h1 _ _)
    · exact h1
  subst he
  have C4 := Lib.hid hb4'
  have BEST := Lib.hid hbest
  have RR := Lib.hid hrow
  have hshort : rr.length ≤ 16 := by
    have hn := net_of_chk HC.out
    have := hbest.1.short hn.2.2.2 ⟨G.out.1.2.1, G.out.1.2.2.1⟩
    omega
  obtain ⟨N, hN⟩ : ∃ N, N = rr.length := ⟨_, rfl⟩
  rw [← hN]
  have HN := Lib.hid hN
  rw [← hN] at hshort
  clear hb4 hb4' hcase hbest hlc hrow hN hcb
  go_simp
  refine hK _ _ (fun W => Below w3.heap.size w3 W) (fun W h => h) C4.out ?_
  clear hK K
  repeat
    refine seq_pure (v := ?_) rfl (by rfl) (fun W hW => ?_) ?_
    rotate_left
    · clear hW
      go_simp
      with_reducible rfl
    simp only [Act.put, List.setIfInBounds_toArray, List.set_cons_zero, List.set_cons_succ]
  refine seq_done ?_
  have hbt := rbetter_calls mm cc (some ⟨b, o, none⟩) A k N d c' w4.heap.size w4.heap.size r rr w4 ((Q3.out.below C4.out).more C4.out.size) (by rw [HN.out]; exact RR.out) (by omega) (by omega)
  unfold BetPost at hbt
  rw [show decide (bet (mm, r) (cc, rr)) = false by simpa using BEST.out.2 _ _ G.out.2] at hbt
  go_wp2_with fail
  ((with_reducible refine hbt.mono ?_))
  rintro e w5 ⟨rfl, kd2, rfl⟩
  go_wp2
  go_ret
  exact ⟨rfl, bel_drewN (B3.out.trans (C4.out.mono B3.out.size)) kd2⟩
end Go.Proofs.Ytkagfgnjfdlicaa
