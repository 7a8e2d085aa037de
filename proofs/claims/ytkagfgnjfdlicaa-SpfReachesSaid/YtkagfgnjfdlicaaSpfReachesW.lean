/-
  The law SpfReaches, walked: under what the calls of spf are to answer, the answer is true for all arguments, and nothing that was there has turned.
-/
import Derived.Test.YtkagfgnjfdlicaaSpfAllW
import Derived.Test.YtkagfgnjfdlicaaGraphK
namespace Go.Proofs.Ytkagfgnjfdlicaa
set_option maxRecDepth 100000
open Go.RowKit

set_option maxRecDepth 100000 in
set_option maxHeartbeats 4000000 in
theorem reaches11_walk (hB : BetterOk) (hS : BestOk) (hA : AllOk) (n : Int) (n1 : -9223372036854775808 ≤ n) (n2 : n ≤ 9223372036854775807) (p : Option Addr) (m c : Nat) (a : Int) (w : World) (h : m ≤ c ∧ c ≤ maxLen ∧ ∃ L, Row lkc w w.heap.size p m L) :
    Calls Try.prog 8 #[.int .i64 n, .slice p m c, .int .i64 a] w fun e w' => e = .returned (.bool true) ∧ Below w.heap.size w w' := by
  have HNB := Lib.hid (And.intro n1 n2)
  clear n1 n2
  obtain ⟨_, hcm, L, hR⟩ := h
  have HR := Lib.hid hR
  have HA := Lib.hid hA
  have ha := alive11_calls hB hS w
  unfold maxLen at hcm
  clear hR hB hS hA
  go_enter Try.func8, Try.ntmps8
  go_wp2_with fail
  ((with_reducible refine ha.mono ?_))
  rintro e w2 ⟨rfl, hb2⟩
  have B2 := Lib.hid hb2
  clear ha hb2
  by_cases h1 : 100 < m
  · have g1 : (100 : Int) < (m : Int) := by omega
    go_wp2
    go_ret
    exact ⟨rfl, B2.out⟩
  have g1 : ¬ (100 : Int) < (m : Int) := by omega
  have R2 := Lib.hid ((HR.out.below B2.out).more B2.out.size)
  have hcb := HA.out n p m c L a w2 HNB.out.1 HNB.out.2 R2.out (by omega)
  go_wp2_with fail
  ((with_reducible refine hcb.mono ?_))
  rintro e w3 ⟨hb3, hcase⟩
  have C3 := Lib.hid hb3
  have R3 := Lib.hid ((R2.out.below hb3).more hb3.size)
  have hrb := rreach_calls n a p m c L w3 R3.out (by omega)
  clear hcb hb3
  rcases hcase with ⟨hno, A, cA, B, cB, rfl⟩ | ⟨hc, ha0, han, A, B, cA, cB, N, RS, C, S, rfl, hN, hrs, hcs, hall, htold⟩
  · have HNO := Lib.hid hno
    clear hno
    go_wp2_with fail
    ((with_reducible refine hrb.mono ?_))
    rintro e w4 ⟨hb4, hcase⟩
    have he : e = .returned (.slice none 0 0) := by
      rcases hcase with ⟨_, he⟩ | ⟨k1, k2, k3, _⟩
      · exact he
      · exact absurd ⟨k1, k2, k3⟩ HNO.out
    subst he
    have C4 := Lib.hid (C3.out.trans (hb4.mono C3.out.size))
    clear hcase hb4 hrb
    go_wp2
    go_ret
    exact ⟨rfl, B2.out.trans (C4.out.mono B2.out.size)⟩
  · have HG := Lib.hid (And.intro hc (And.intro ha0 han))
    have HRS := Lib.hid hrs
    have HCS := Lib.hid hcs
    have HALL := Lib.hid hall
    have HT := Lib.hid htold
    have HN := Lib.hid hN
    have hN16 : N ≤ 16 := by have := (net_of_chk hc).2.1; omega
    clear hc ha0 han hrs hcs hall htold hN
    go_wp2_with fail
    ((with_reducible refine hrb.mono ?_))
    rintro e w4 ⟨hb4, hcase⟩
    obtain ⟨rb, bs, he, hmk, hbl, hrch⟩ : ∃ (rb : Nat) (bs : List Bool), e = .returned (.slice (some ⟨rb, 0, none⟩) N N) ∧ Mks w4 rb bs ∧ bs.length = N ∧ ∀ x : Int, 0 ≤ x → x < n → (bat bs x = true ↔ Rch L a x) := by
      rcases hcase with ⟨hno, _⟩ | ⟨_, _, _, rb, bs, he, _, hmk, hl, hr⟩
      · exact absurd HG.out hno
      · have hl2 : bs.length = N := by have := HN.out; omega
        rw [hl2] at he
        exact ⟨rb, bs, he, hmk, hl2, hr⟩
    subst he
    have C4 := Lib.hid (C3.out.trans (hb4.mono C3.out.size))
    have B4 := Lib.hid hb4
    have MK := Lib.hid hmk
    have HRCH := Lib.hid hrch
    have HBL := Lib.hid hbl
    clear hcase hb4 hmk hbl hrch hrb
    go_wp2_with fail
    go_loopw [58] (fun t W => ∃ i : Nat, i ≤ N ∧ t = .int .i64 (i : Int) ∧ Below w4.heap.size w4 W) (fun t W => N - (intOf t).toNat)
    case atStart => exact ⟨0, Nat.zero_le _, rfl, Below.refl _ _⟩
    case round =>
      obtain ⟨i, hi, rfl, hb⟩ := hrel
      have HB := Lib.hid hb
      clear hb
      by_cases hlt : i < N
      · have B3r := Lib.hid (B4.out.trans (HB.out.mono B4.out.size))
        obtain ⟨b1, o1, x, v1, rfl, hb1, hx, hv1, hc1⟩ := row_one rle_length ((HRS.out.below B3r.out).more B3r.out.size) hlt
        obtain ⟨b2, o2, co, v2, rfl, hb2, hy, hv2, hc2⟩ := row_one ei_length ((HCS.out.below B3r.out).more B3r.out.size) hlt
        obtain ⟨xa, xn, xc⟩ := x
        have e1 : v1 = .slice xa xn xc := by simp [rle] at hv1; exact hv1.symm
        have e2 : v2 = .int .i64 co := by simp [ei] at hv2; exact hv2.symm
        subst e1
        subst e2
        have htd := HT.out i _ _ hx hy
        have hin : (i : Int) < n := by have := HN.out; omega
        have hmr : Mks wr rb bs := Blk.below MK.out HB.out
        have hc3 := hmr.cell (i : Int) (by omega) (by have := HBL.out; omega)
        have hc3' : wr.cell? ⟨rb, i, none⟩ = some (.bool (bat bs (i : Int))) := by simpa using hc3
        have hrl : rb < wr.heap.size := Blk.lt hmr
        have hkey : (bat bs (i : Int) = true ∧ 0 < xn ∧ xn ≤ 16 ∧ 0 ≤ co) ∨ (bat bs (i : Int) = false ∧ xn = 0 ∧ co = -1) := by
          have hnet := net_of_chk HG.out.1
          cases hp : sat S (i : Int) with
          | none =>
            rw [hp] at htd
            obtain ⟨q3, q4⟩ := htd
            refine .inr ⟨?_, q3, q4⟩
            cases hb : bat bs (i : Int) with
            | false => rfl
            | true =>
              obtain ⟨cc, r, hw⟩ := rch_wy hnet.2.2.2 ((HRCH.out (i : Int) (by omega) hin).1 hb)
              exact absurd hw (HALL.out.none (i : Int) (by omega) hin hp cc r)
          | some q =>
            obtain ⟨cc, r⟩ := q
            rw [hp] at htd
            obtain ⟨q5, q6, q7, q8, _⟩ := htd
            simp only at q5 q6 q7 q8
            have hb := HALL.out.best (i : Int) cc r (by omega) hin hp
            have hsh := hb.1.short hnet.2.2.2 HG.out.2
            refine .inl ⟨(HRCH.out (i : Int) (by omega) hin).2 (wy_rch hb.1), by omega, by omega, by omega⟩
        generalize bat bs (i : Int) = bv at hc3' hkey
        have i1 : (i : Int) < (N : Int) := by omega
        have DC := Lib.hid (show ∀ W, Below wr.heap.size wr W → W.cell? ⟨b1, o1 + i, none⟩ = some (.slice xa xn xc) ∧ W.cell? ⟨b2, o2 + i, none⟩ = some (.int .i64 co) ∧ W.cell? ⟨rb, i, none⟩ = some (.bool bv) from fun W hW => ⟨(hW.cell (p := ⟨b1, o1 + i, none⟩) hb1).trans hc1, (hW.cell (p := ⟨b2, o2 + i, none⟩) hb2).trans hc2, (hW.cell (p := ⟨rb, i, none⟩) hrl).trans hc3'⟩)
        clear hx hv1 hc1 hy hv2 hc2 htd hmr hc3 hc3' hrl hb1 hb2
        rcases hkey with ⟨rfl, k1, k2, k3⟩ | ⟨rfl, rfl, rfl⟩
        · have k4 : (0 : Int) < (xn : Int) := by omega
          have k5 : decide ((0 : Int) < (xn : Int)) = true := by simpa using k1
          have k6 : decide (0 < xn) = true := by simpa using k1
          have k7 : decide (0 ≤ co) = true := by simpa using k3
          go_wp2_with fail
          refine region_seq (fun W => Below wr.heap.size wr W) [(0, true), (1, true), (2, true), (3, true), (4, true), (5, true), (6, true), (7, true), (8, true), (9, true), (10, true), (11, true), (12, true), (13, true), (14, true), (15, true), (16, true), (17, true), (18, true), (19, true), (20, true), (21, true), (22, true)]
            (by kernel_rfl) (by kernel_rfl) (by kernel_rfl) (by kernel_rfl) (fun _ _ _ _ _ h => h) (Below.refl _ _).drew ?_
          repeat
            refine seq_pure (v := ?_) rfl (by rfl) (fun W hW => ?_) ?_
            rotate_left
            · obtain ⟨t0, t1, t2⟩ := DC.out W hW
              clear hW
              go_simp
              with_reducible rfl
            simp only [Act.put, List.setIfInBounds_toArray, List.set_cons_zero, List.set_cons_succ]
          refine seq_done ?_
          go_wp2_with fail
          go_roundw
          case rel => exact ⟨i + 1, by omega, rfl, HB.out.drew⟩
          case measure => simp [intOf]; omega
        · skip
          go_wp2_with fail
          refine region_seq (fun W => Below wr.heap.size wr W) [(0, true), (1, true), (2, true), (3, true), (4, true), (5, true), (6, true), (7, true), (8, true), (9, true), (10, true), (11, true), (12, true), (13, true), (14, true), (15, true), (16, true), (17, true), (18, true), (19, true), (20, true), (21, true), (22, true)]
            (by kernel_rfl) (by kernel_rfl) (by kernel_rfl) (by kernel_rfl) (fun _ _ _ _ _ h => h) (Below.refl _ _).drew ?_
          repeat
            refine seq_pure (v := ?_) rfl (by rfl) (fun W hW => ?_) ?_
            rotate_left
            · obtain ⟨t0, t1, t2⟩ := DC.out W hW
              clear hW
              go_simp
              with_reducible rfl
            simp only [Act.put, List.setIfInBounds_toArray, List.set_cons_zero, List.set_cons_succ]
          refine seq_done ?_
          go_wp2_with fail
          go_roundw
          case rel => exact ⟨i + 1, by omega, rfl, HB.out.drew⟩
          case measure => simp [intOf]; omega
      · obtain rfl : i = N := by omega
        have i1 : ¬ (i : Int) < (i : Int) := by omega
        go_wp2
        go_ret
        exact ⟨rfl, B2.out.trans ((C4.out.trans (HB.out.mono C4.out.size)).mono B2.out.size)⟩
end Go.Proofs.Ytkagfgnjfdlicaa
