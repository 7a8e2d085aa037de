/-
  The law TedbActs, walked: for any network and any adverts the answer is true, and nothing that was there has turned. Condition: numbers as large as their types allow.
-/
import Derived.Test.YtmfmjdkeoiebpaaTewC
import Derived.Test.YtmfmjdkeoiebpaaTedOpen
import Derived.Test.YtmfmjdkeoiebpaaTedK
import Derived.Test.YtmfmjdkeoiebpaaGraphJ
namespace Go.Proofs.Ytmfmjdkeoiebpaa
set_option maxRecDepth 100000
set_option linter.unusedVariables false
open Go.RowKit

set_option maxHeartbeats 12800000 in
theorem acts15_walk (n : Int) (a : Option Addr) (m c : Nat) (w : World) (hk : I15 n ∧ m ≤ maxLen ∧ ∃ es, Row lkc w w.heap.size a m es ∧ ∀ x ∈ es, LkB x) (a1 : Option Addr) (n1 c1 : Nat) (h1 : n1 ≤ maxLen) (ho : ∃ l, Row adc w w.heap.size a1 n1 l ∧ ∀ x ∈ l, AdOk x ∧ I15 x.q) :
    Calls Try.prog 3 #[.agg #[.int .i64 n, .slice a m c], .slice a1 n1 c1] w fun e w' => e = .returned (.bool true) ∧ Below w.heap.size w w' := by
  obtain ⟨hI, hm, L, hrl, hlb⟩ := hk
  obtain ⟨l, hr, hok⟩ := ho
  have HRL := Lib.hid hrl
  have HLB := Lib.hid hlb
  have HI := Lib.hid hI
  unfold maxLen at hm
  have HR := Lib.hid hr
  have HOK := Lib.hid hok
  unfold maxLen at h1
  clear hr hok
  have NB1 := Lib.hid (show Blk (w.alloc (.cells #[.int .i64 n, .slice a m c] 24)) w.heap.size 24 [.int .i64 n, .slice a m c] from Blk.new w 24 [.int .i64 n, .slice a m c])
  have L1 := Lib.hid (bel_new (Below.refl w.heap.size w) (.cells #[.int .i64 n, .slice a m c] 24))
  clear hrl hlb hI
  go_enter Try.func3, Try.ntmps3
  go_upto_region 1 with fail
  generalize (w.alloc (.cells #[.int .i64 n, .slice a m c] 24)) = w1 at *
  go_wp2_with fail
  ((with_reducible refine (alive15_calls w1).mono ?_))
  rintro e w2 ⟨rfl, hb⟩
  have NB2 := Lib.hid (NB1.out.below hb)
  have L2 := Lib.hid (L1.out.trans (hb.mono L1.out.size))
  clear hb NB1 L1
  have x1 : w2.cell? ⟨w.heap.size, 1, none⟩ = some (.slice a m c) := NB2.out.cell 1
  by_cases q0 : 100 < m
  · have q0' : (100 : Int) < (m : Int) := by omega
    go_wp2_with fail
    go_ret
    exact ⟨rfl, L2.out⟩
  have q0' : ¬ (100 : Int) < (m : Int) := by omega
  have HM := Lib.hid (show m ≤ 100 by omega)
  clear q0
  have x0 : w2.cell? ⟨w.heap.size, 0, none⟩ = some (.int .i64 n) := NB2.out.cell 0
  by_cases hz : chk n L = 0
  case neg =>
    have hn := new15_no n a m c L w2 ((HRL.out.below L2.out).more L2.out.size) HI.out.1 HI.out.2 (by have := HM.out; omega) hz
    have HN := Lib.hid hn
    have HZ := Lib.hid hz
    clear hn hz
    go_wp2_with fail
    ((with_reducible refine HN.out.mono ?_))
    rintro e w3 ⟨rfl, hb⟩
    have NB3 := Lib.hid (NB2.out.below hb)
    have L3 := Lib.hid (L2.out.trans (hb.mono L2.out.size))
    clear hb HN x0 x1 NB2 L2
    have x0 : w3.cell? ⟨w.heap.size, 0, none⟩ = some (.int .i64 n) := NB3.out.cell 0
    have x1 : w3.cell? ⟨w.heap.size, 1, none⟩ = some (.slice a m c) := NB3.out.cell 1
    obtain ⟨z, hzz⟩ : ∃ z, chk n L = z := ⟨_, rfl⟩
    have hck := rcheck_calls n a m c L w3 ((HRL.out.below L3.out).more L3.out.size) (by have := HM.out; omega)
    rw [hzz] at hck
    have HCK := Lib.hid hck
    have hzn : (z == 0) = false := beq_eq_false_iff_ne.2 (by rw [← hzz]; exact HZ.out)
    have hzm : (z != 0) = true := bne_iff_ne.2 (by rw [← hzz]; exact HZ.out)
    clear hck hzz
    go_wp2_with fail
    ((with_reducible refine HCK.out.mono ?_))
    rintro e w4 ⟨rfl, hb⟩
    have L4 := Lib.hid (L3.out.trans (hb.mono L3.out.size))
    clear hb HCK x0 x1
    go_wp2_with fail
    go_ret
    exact ⟨rfl, L4.out⟩
  case pos =>
    have hn := new15_yes n a m c L HLB.out w2 ((HRL.out.below L2.out).more L2.out.size) HI.out.1 HI.out.2 (by have := HM.out; omega) hz
    have HN := Lib.hid hn
    have HZ := Lib.hid hz
    have HSM := Lib.hid (chk_small hz)
    have HBS := Lib.hid (bs15_new (chk_small hz).2.1 (fun x hx => HLB.out x hx))
    clear hn hz
    go_wp2_with fail
    ((with_reducible refine HN.out.mono ?_))
    intro e w3 h
    obtain ⟨q, S, rfl, lv, hb, hs⟩ := Liv.start L2.out h
    have V3 := Lib.hid lv
    have NB3 := Lib.hid (show BlkO w3 S w.heap.size 24 [.int .i64 n, .slice a m c] from ⟨NB2.out.below hb, fun h9 => by have := hs _ h9; have := NB2.out.lt; omega⟩)
    clear lv hb hs h HN x0 x1 NB2 L2
    have x0 : w3.cell? ⟨w.heap.size, 0, none⟩ = some (.int .i64 n) := NB3.out.blk.cell 0
    have x1 : w3.cell? ⟨w.heap.size, 1, none⟩ = some (.slice a m c) := NB3.out.blk.cell 1
    have hck := rcheck_calls n a m c L w3 ((HRL.out.below V3.out.bel).more V3.out.bel.size) (by have := HM.out; omega)
    rw [HZ.out] at hck
    have HCK := Lib.hid hck
    clear hck
    go_wp2_with fail
    ((with_reducible refine HCK.out.mono ?_))
    rintro e w4 ⟨rfl, hb⟩
    have V4 := Lib.hid (V3.out.below hb)
    have NB4 := Lib.hid (NB3.out.below hb)
    clear hb HCK x0 x1 V3 NB3
    have x1 : w4.cell? ⟨w.heap.size, 1, none⟩ = some (.slice a m c) := NB4.out.blk.cell 1
    have hrn := rnew15_calls a m c L (fun x hx => (HLB.out x hx).1) w4 ((HRL.out.below V4.out.bel).more V4.out.bel.size) (by have := HM.out; omega)
    unfold NewP15 at hrn
    rw [HRL.out.1] at hrn
    have HRN := Lib.hid hrn
    clear hrn
    go_wp2_with fail
    ((with_reducible refine HRN.out.mono ?_))
    rintro e w5 ⟨A6, c6, rfl, acc, hb⟩
    have V5 := Lib.hid (V4.out.below hb)
    have hbl : (bnew L).length = m := by unfold bnew; rw [List.length_map]; exact HRL.out.1
    have R5 := Lib.hid (show RowO adc w5 S A6 m (bnew L) from by have := RowO.of_acc (S := S) (fun x hx => V4.out.bas.lt x hx) acc; rwa [hbl] at this)
    clear hb acc HRN x1 V4 NB4 hbl
    have hm1 : m ≤ 100 := HM.out
    go_wp2_with fail
    go_loopw [6, 7] (fun s t W => ∃ (i : Nat) (b : List Ad) (A6 : Option Addr) (c6 : Nat), i ≤ n1 ∧ i ≤ 100 ∧ s = .slice A6 m c6 ∧ t = .int .i64 (i : Int) ∧ Liv w W q b S ∧ RowO adc W S A6 m b) (fun s t W => 100 - (intOf t).toNat)
    case atStart => exact ⟨0, bnew L, A6, c6, by omega, by omega, rfl, rfl, V5.out, R5.out⟩
    case round =>
      clear V5 R5
      obtain ⟨i, b, A6, c6, hin, hi100, rfl, rfl, hv, hr⟩ := hrel
      have V := Lib.hid hv
      have R := Lib.hid hr
      clear hv hr
      by_cases hlt : i < n1 ∧ i < 100
      · obtain ⟨hl1, hl2⟩ := hlt
        have i1 : (i : Int) < (n1 : Int) := by omega
        have i2 : (i : Int) < 100 := by omega
        have HI1 := Lib.hid (And.intro hl1 hl2)
        obtain ⟨bb, o, x, rfl, hx, hbb, hc⟩ := range15 HR.out hl1
        have HXO := Lib.hid (HOK.out x (List.mem_of_getElem? hx))
        have HC := Lib.hid (fun W (hW : Below w.heap.size w W) => hc W hW)
        have HIN := Lib.hid (show (Try.prog.info? 42).map (·.size) = some (adc x).length from infoAdS15)
        have HTH := Lib.hid (fun W => theirs15_calls x W)
        unfold Back15 at HTH
        have HMA := Lib.hid (fun W => may15c_calls x HXO.out.1 HXO.out.2 W)
        have HRM := Lib.hid (fun W => rmay15_calls x HXO.out.1 W)
        unfold Yes15 at HMA
        unfold May15 at HRM
        obtain ⟨vm, hvm⟩ : ∃ vm, vldA x = vm := ⟨_, rfl⟩
        rw [hvm] at HMA HRM
        clear hx hbb hc hin hi100 hl1 hl2 hvm
        go_wp2_with (refine step_load_at (o := ⟨some 53, _, _, _, _, _⟩) rfl rfl rfl (HC.out wr V.out.bel) Try.underlying42 rfl HIN.out ?_)
        ((with_reducible refine (HTH.out wr).mono ?_))
        rintro e v1 ⟨rfl, hb⟩
        have V1 := Lib.hid (V.out.below hb)
        have R1 := Lib.hid (R.out.below hb)
        clear hb V R
        have hap := apply15c_calls q b S x HXO.out.1 HXO.out.2 v1 V1.out.bas
        have hrap := fun W (h : RowO adc W S A6 m b) => rapply15_calls A6 m c6 b x HXO.out.1 W h.row (by have := HM.out; omega)
        have hrc := bApply_cases b x
        have hbl : (bApply b x).1.length = b.length := by
          rcases hrc with ⟨_, e⟩ | ⟨k, hk, _, _, _, _, e⟩
          · rw [e]
          · rw [e, List.length_set]
        have hrf : (bApply b x).2.1 = true → (bApply b x).2.2 = 0 := by
          rcases hrc with ⟨e, _⟩ | ⟨k, hk, _, _, _, _, e⟩
          · intro h; rw [e] at h; cases h
          · intro _; rw [e]
        have hrg : (bApply b x).2.1 = false → (bApply b x).1 = b := by
          rcases hrc with ⟨_, e⟩ | ⟨k, hk, _, _, _, _, e⟩
          · intro _; exact e
          · intro h; rw [e] at h; cases h
        unfold Ap15 at hap
        unfold ApplyP15 at hrap
        obtain ⟨r, hr⟩ : ∃ r, bApply b x = r := ⟨_, rfl⟩
        rw [hr] at hap hbl hrf hrg
        simp only [hr] at hrap
        obtain ⟨b2, d, f⟩ := r
        simp only at hap hrap hbl hrf hrg
        have HAP := Lib.hid hap
        have HRAP := Lib.hid hrap
        have HBL := Lib.hid hbl
        have HRF := Lib.hid hrf
        have HRG := Lib.hid hrg
        clear hap hrap hbl hrf hrg hrc hr
        go_wp2_with fail
        ((with_reducible refine HAP.out.mono ?_))
        rintro e v2 ⟨rfl, hb, ht⟩
        have V2 := Lib.hid (V1.out.apply hb ht)
        have R2 := Lib.hid (R1.out.turn ht)
        clear hb ht V1 R1 HAP
        go_wp2_with (refine step_load_at (o := ⟨some 63, _, _, _, _, _⟩) rfl rfl rfl (HC.out v2 V2.out.bel) Try.underlying42 rfl HIN.out ?_)
        ((with_reducible refine (HRAP.out v2 R2.out).mono ?_))
        rintro e v3 ⟨hb, hcase⟩
        have V3 := Lib.hid (V2.out.below hb)
        have HL2 := Lib.hid (V2.out.bas.lt)
        have R3 := Lib.hid (R2.out.below hb)
        clear hb V2 R2 HRAP
        have RL := Lib.hid R3.out.row.1
        rcases hcase with ⟨hd, rfl⟩ | ⟨hd, A9, c9, rfl, hacc⟩
        · have hb2 : b2 = b := HRG.out hd
          subst hb2
          subst hd
          have RN := Lib.hid R3.out
          clear R3
          have V4 := Lib.hid V3.out
          have HBK := Lib.hid V3.out.bas.ok
          have hall := all15c_calls q b2 S
          have hbm : b2.length = m := by have := HBL.out; rw [this]; exact RL.out
          rw [hbm] at hall
          unfold Cl15 at hall
          have HALL := Lib.hid hall
          have HBM := Lib.hid hbm
          clear hall hbm
          go_wp2_with fail
          refine region_seq (fun W => Below v3.heap.size v3 W) [(0, true), (1, true), (2, true), (3, true), (4, true), (5, true), (6, true), (7, true), (8, true), (9, true), (12, true), (10, false), (11, false), (13, false), (14, true), (15, true), (16, true), (17, true), (18, true), (19, true), (20, true), (23, true), (24, true), (25, true), (26, true), (21, false), (22, false), (27, false), (28, true), (29, true)]
            (by kernel_rfl) (by kernel_rfl) (by kernel_rfl) (by kernel_rfl) (fun _ _ _ _ _ h => h) (Below.refl _ _).drew ?_
          repeat first
            | refine seq_load_at15 rfl (by rfl) rfl rfl (fun W hW => HC.out W (V4.out.bel.trans (hW.mono V4.out.bel.size))) Try.underlying42 rfl HIN.out ?_
              simp only [Act.put, List.setIfInBounds_toArray, List.set_cons_zero, List.set_cons_succ]
            | refine seq_skip rfl (by rfl) ?_
              simp only [Act.put, List.setIfInBounds_toArray, List.set_cons_zero, List.set_cons_succ]
            | refine seq_pure (v := ?_) rfl (by rfl) (fun W hW => ?_) ?_
              rotate_left
              · clear hW
                go_simp
                with_reducible rfl
              simp only [Act.put, List.setIfInBounds_toArray, List.set_cons_zero, List.set_cons_succ]
          refine seq_make rfl (by rfl) (fun K hK => ?_)
          go_simp
          ((with_reducible refine (HALL.out v3.drew (V4.out.bas.below (Below.refl _ _).drew)).mono ?_))
          rintro e y1 ⟨A7, c7, rfl, acc, hb⟩
          have SBy1 := Lib.hid (show Below v3.heap.size v3 y1 from below_of_drew hb)
          have ACC7 := Lib.hid acc
          clear acc
          clear hb
          go_simp
          refine hK _ _ (fun W => Below v3.heap.size v3 W) (fun W h => h) SBy1.out ?_
          clear hK K
          repeat first
            | refine seq_load_at15 rfl (by rfl) rfl rfl (fun W hW => HC.out W (V4.out.bel.trans (hW.mono V4.out.bel.size))) Try.underlying42 rfl HIN.out ?_
              simp only [Act.put, List.setIfInBounds_toArray, List.set_cons_zero, List.set_cons_succ]
            | refine seq_skip rfl (by rfl) ?_
              simp only [Act.put, List.setIfInBounds_toArray, List.set_cons_zero, List.set_cons_succ]
            | refine seq_pure (v := ?_) rfl (by rfl) (fun W hW => ?_) ?_
              rotate_left
              · clear hW
                go_simp
                with_reducible rfl
              simp only [Act.put, List.setIfInBounds_toArray, List.set_cons_zero, List.set_cons_succ]
          refine seq_make rfl (by rfl) (fun K hK => ?_)
          go_simp
          ((with_reducible refine ((show Calls Try.prog _ _ y1 _ from by have := ours15_calls A7 m c7 b2 y1 (rowT15 ACC7.out HBM.out) (by have := HM.out; omega); unfold OurP15 at this; rw [HBM.out] at this; exact this)).mono ?_))
          rintro e y2 ⟨A8, c8, rfl, acc, hb⟩
          have SBy2 := Lib.hid (show Below v3.heap.size v3 y2 from SBy1.out.trans (hb.mono SBy1.out.size))
          have ACC8 := Lib.hid acc
          clear acc
          clear hb
          go_simp
          refine hK _ _ (fun W => Below v3.heap.size v3 W) (fun W h => h) SBy2.out ?_
          clear hK K
          repeat first
            | refine seq_load_at15 rfl (by rfl) rfl rfl (fun W hW => HC.out W (V4.out.bel.trans (hW.mono V4.out.bel.size))) Try.underlying42 rfl HIN.out ?_
              simp only [Act.put, List.setIfInBounds_toArray, List.set_cons_zero, List.set_cons_succ]
            | refine seq_skip rfl (by rfl) ?_
              simp only [Act.put, List.setIfInBounds_toArray, List.set_cons_zero, List.set_cons_succ]
            | refine seq_pure (v := ?_) rfl (by rfl) (fun W hW => ?_) ?_
              rotate_left
              · clear hW
                go_simp
                with_reducible rfl
              simp only [Act.put, List.setIfInBounds_toArray, List.set_cons_zero, List.set_cons_succ]
          refine seq_make rfl (by rfl) (fun K hK => ?_)
          go_simp
          ((with_reducible refine ((show Calls Try.prog _ _ y2 (fun e w' => e = .returned (.bool true) ∧ Below y2.heap.size y2 w') from by have := rsame15_calls A8 A6 m m c8 c6 b2 b2 (fun y hy => (HBK.out.1 y hy).1) (fun y hy => (HBK.out.1 y hy).1) y2 (row15 ACC8.out HBM.out) ((RN.out.below SBy2.out).row) (by have := HM.out; omega) (by have := HM.out; omega); unfold Yes15 at this; rw [decide_eq_true rfl] at this; exact this)).mono ?_))
          rintro e y3 ⟨rfl, hb⟩
          have SBy3 := Lib.hid (show Below v3.heap.size v3 y3 from SBy2.out.trans (hb.mono SBy2.out.size))
          clear hb
          go_simp
          refine hK _ _ (fun W => Below v3.heap.size v3 W) (fun W h => h) SBy3.out ?_
          clear hK K
          repeat first
            | refine seq_load_at15 rfl (by rfl) rfl rfl (fun W hW => HC.out W (V4.out.bel.trans (hW.mono V4.out.bel.size))) Try.underlying42 rfl HIN.out ?_
              simp only [Act.put, List.setIfInBounds_toArray, List.set_cons_zero, List.set_cons_succ]
            | refine seq_skip rfl (by rfl) ?_
              simp only [Act.put, List.setIfInBounds_toArray, List.set_cons_zero, List.set_cons_succ]
            | refine seq_pure (v := ?_) rfl (by rfl) (fun W hW => ?_) ?_
              rotate_left
              · clear hW
                go_simp
                with_reducible rfl
              simp only [Act.put, List.setIfInBounds_toArray, List.set_cons_zero, List.set_cons_succ]
          refine seq_make rfl (by rfl) (fun K hK => ?_)
          go_simp
          ((with_reducible refine (HTH.out y3).mono ?_))
          rintro e y4 ⟨rfl, hb⟩
          have SBy4 := Lib.hid (show Below v3.heap.size v3 y4 from SBy3.out.trans (hb.mono SBy3.out.size))
          clear hb
          go_simp
          refine hK _ _ (fun W => Below v3.heap.size v3 W) (fun W h => h) SBy4.out ?_
          clear hK K
          repeat first
            | refine seq_load_at15 rfl (by rfl) rfl rfl (fun W hW => HC.out W (V4.out.bel.trans (hW.mono V4.out.bel.size))) Try.underlying42 rfl HIN.out ?_
              simp only [Act.put, List.setIfInBounds_toArray, List.set_cons_zero, List.set_cons_succ]
            | refine seq_skip rfl (by rfl) ?_
              simp only [Act.put, List.setIfInBounds_toArray, List.set_cons_zero, List.set_cons_succ]
            | refine seq_pure (v := ?_) rfl (by rfl) (fun W hW => ?_) ?_
              rotate_left
              · clear hW
                go_simp
                with_reducible rfl
              simp only [Act.put, List.setIfInBounds_toArray, List.set_cons_zero, List.set_cons_succ]
          refine seq_make rfl (by rfl) (fun K hK => ?_)
          go_simp
          ((with_reducible refine (HMA.out y4).mono ?_))
          rintro e y5 ⟨rfl, hb⟩
          have SBy5 := Lib.hid (show Below v3.heap.size v3 y5 from SBy4.out.trans (hb.mono SBy4.out.size))
          clear hb
          go_simp
          refine hK _ _ (fun W => Below v3.heap.size v3 W) (fun W h => h) SBy5.out ?_
          clear hK K
          repeat first
            | refine seq_load_at15 rfl (by rfl) rfl rfl (fun W hW => HC.out W (V4.out.bel.trans (hW.mono V4.out.bel.size))) Try.underlying42 rfl HIN.out ?_
              simp only [Act.put, List.setIfInBounds_toArray, List.set_cons_zero, List.set_cons_succ]
            | refine seq_skip rfl (by rfl) ?_
              simp only [Act.put, List.setIfInBounds_toArray, List.set_cons_zero, List.set_cons_succ]
            | refine seq_pure (v := ?_) rfl (by rfl) (fun W hW => ?_) ?_
              rotate_left
              · clear hW
                go_simp
                with_reducible rfl
              simp only [Act.put, List.setIfInBounds_toArray, List.set_cons_zero, List.set_cons_succ]
          refine seq_make rfl (by rfl) (fun K hK => ?_)
          go_simp
          ((with_reducible refine (HRM.out y5).mono ?_))
          rintro e y6 ⟨rfl, hb⟩
          have SBy6 := Lib.hid (show Below v3.heap.size v3 y6 from SBy5.out.trans (hb.mono SBy5.out.size))
          clear hb
          go_simp
          refine hK _ _ (fun W => Below v3.heap.size v3 W) (fun W h => h) SBy6.out ?_
          clear hK K
          repeat first
            | refine seq_load_at15 rfl (by rfl) rfl rfl (fun W hW => HC.out W (V4.out.bel.trans (hW.mono V4.out.bel.size))) Try.underlying42 rfl HIN.out ?_
              simp only [Act.put, List.setIfInBounds_toArray, List.set_cons_zero, List.set_cons_succ]
            | refine seq_skip rfl (by rfl) ?_
              simp only [Act.put, List.setIfInBounds_toArray, List.set_cons_zero, List.set_cons_succ]
            | refine seq_pure (v := ?_) rfl (by rfl) (fun W hW => ?_) ?_
              rotate_left
              · clear hW
                go_simp
                with_reducible rfl
              simp only [Act.put, List.setIfInBounds_toArray, List.set_cons_zero, List.set_cons_succ]
          refine seq_done ?_
          have V6 := Lib.hid (V4.out.below SBy6.out)
          have R6 := Lib.hid (RN.out.below SBy6.out)
          go_wp2_with fail
          go_roundw
          case rel => exact ⟨i + 1, b2, _, _, by have := HI1.out; omega, by have := HI1.out; omega, rfl, by first | rfl | (simp; omega), V6.out, R6.out⟩
          case measure => have := HI1.out; simp [intOf]; omega
        · have hf : f = 0 := HRF.out hd
          subst hf
          subst hd
          have RN := Lib.hid (show RowO adc v3 S A9 m b2 from by have := RowO.of_acc (S := S) (fun x hx => HL2.out x hx) hacc; rwa [show b2.length = m from HBL.out.trans RL.out] at this)
          clear R3 hacc
          have V4 := Lib.hid V3.out
          have HBK := Lib.hid V3.out.bas.ok
          have hall := all15c_calls q b2 S
          have hbm : b2.length = m := by have := HBL.out; rw [this]; exact RL.out
          rw [hbm] at hall
          unfold Cl15 at hall
          have HALL := Lib.hid hall
          have HBM := Lib.hid hbm
          clear hall hbm
          go_wp2_with fail
          refine region_seq (fun W => Below v3.heap.size v3 W) [(0, true), (1, true), (2, true), (3, true), (4, true), (5, true), (6, true), (7, true), (8, true), (9, true), (12, true), (10, false), (11, false), (13, false), (14, true), (15, true), (16, true), (17, true), (18, true), (19, true), (20, true), (23, true), (24, true), (25, true), (26, true), (21, false), (22, false), (27, false), (28, true), (29, true)]
            (by kernel_rfl) (by kernel_rfl) (by kernel_rfl) (by kernel_rfl) (fun _ _ _ _ _ h => h) (Below.refl _ _).drew ?_
          repeat first
            | refine seq_load_at15 rfl (by rfl) rfl rfl (fun W hW => HC.out W (V4.out.bel.trans (hW.mono V4.out.bel.size))) Try.underlying42 rfl HIN.out ?_
              simp only [Act.put, List.setIfInBounds_toArray, List.set_cons_zero, List.set_cons_succ]
            | refine seq_skip rfl (by rfl) ?_
              simp only [Act.put, List.setIfInBounds_toArray, List.set_cons_zero, List.set_cons_succ]
            | refine seq_pure (v := ?_) rfl (by rfl) (fun W hW => ?_) ?_
              rotate_left
              · clear hW
                go_simp
                with_reducible rfl
              simp only [Act.put, List.setIfInBounds_toArray, List.set_cons_zero, List.set_cons_succ]
          refine seq_make rfl (by rfl) (fun K hK => ?_)
          go_simp
          ((with_reducible refine (HALL.out v3.drew (V4.out.bas.below (Below.refl _ _).drew)).mono ?_))
          rintro e y1 ⟨A7, c7, rfl, acc, hb⟩
          have SBy1 := Lib.hid (show Below v3.heap.size v3 y1 from below_of_drew hb)
          have ACC7 := Lib.hid acc
          clear acc
          clear hb
          go_simp
          refine hK _ _ (fun W => Below v3.heap.size v3 W) (fun W h => h) SBy1.out ?_
          clear hK K
          repeat first
            | refine seq_load_at15 rfl (by rfl) rfl rfl (fun W hW => HC.out W (V4.out.bel.trans (hW.mono V4.out.bel.size))) Try.underlying42 rfl HIN.out ?_
              simp only [Act.put, List.setIfInBounds_toArray, List.set_cons_zero, List.set_cons_succ]
            | refine seq_skip rfl (by rfl) ?_
              simp only [Act.put, List.setIfInBounds_toArray, List.set_cons_zero, List.set_cons_succ]
            | refine seq_pure (v := ?_) rfl (by rfl) (fun W hW => ?_) ?_
              rotate_left
              · clear hW
                go_simp
                with_reducible rfl
              simp only [Act.put, List.setIfInBounds_toArray, List.set_cons_zero, List.set_cons_succ]
          refine seq_make rfl (by rfl) (fun K hK => ?_)
          go_simp
          ((with_reducible refine ((show Calls Try.prog _ _ y1 _ from by have := ours15_calls A7 m c7 b2 y1 (rowT15 ACC7.out HBM.out) (by have := HM.out; omega); unfold OurP15 at this; rw [HBM.out] at this; exact this)).mono ?_))
          rintro e y2 ⟨A8, c8, rfl, acc, hb⟩
          have SBy2 := Lib.hid (show Below v3.heap.size v3 y2 from SBy1.out.trans (hb.mono SBy1.out.size))
          have ACC8 := Lib.hid acc
          clear acc
          clear hb
          go_simp
          refine hK _ _ (fun W => Below v3.heap.size v3 W) (fun W h => h) SBy2.out ?_
          clear hK K
          repeat first
            | refine seq_load_at15 rfl (by rfl) rfl rfl (fun W hW => HC.out W (V4.out.bel.trans (hW.mono V4.out.bel.size))) Try.underlying42 rfl HIN.out ?_
              simp only [Act.put, List.setIfInBounds_toArray, List.set_cons_zero, List.set_cons_succ]
            | refine seq_skip rfl (by rfl) ?_
              simp only [Act.put, List.setIfInBounds_toArray, List.set_cons_zero, List.set_cons_succ]
            | refine seq_pure (v := ?_) rfl (by rfl) (fun W hW => ?_) ?_
              rotate_left
              · clear hW
                go_simp
                with_reducible rfl
              simp only [Act.put, List.setIfInBounds_toArray, List.set_cons_zero, List.set_cons_succ]
          refine seq_make rfl (by rfl) (fun K hK => ?_)
          go_simp
          ((with_reducible refine ((show Calls Try.prog _ _ y2 (fun e w' => e = .returned (.bool true) ∧ Below y2.heap.size y2 w') from by have := rsame15_calls A8 A9 m m c8 c9 b2 b2 (fun y hy => (HBK.out.1 y hy).1) (fun y hy => (HBK.out.1 y hy).1) y2 (row15 ACC8.out HBM.out) ((RN.out.below SBy2.out).row) (by have := HM.out; omega) (by have := HM.out; omega); unfold Yes15 at this; rw [decide_eq_true rfl] at this; exact this)).mono ?_))
          rintro e y3 ⟨rfl, hb⟩
          have SBy3 := Lib.hid (show Below v3.heap.size v3 y3 from SBy2.out.trans (hb.mono SBy2.out.size))
          clear hb
          go_simp
          refine hK _ _ (fun W => Below v3.heap.size v3 W) (fun W h => h) SBy3.out ?_
          clear hK K
          repeat first
            | refine seq_load_at15 rfl (by rfl) rfl rfl (fun W hW => HC.out W (V4.out.bel.trans (hW.mono V4.out.bel.size))) Try.underlying42 rfl HIN.out ?_
              simp only [Act.put, List.setIfInBounds_toArray, List.set_cons_zero, List.set_cons_succ]
            | refine seq_skip rfl (by rfl) ?_
              simp only [Act.put, List.setIfInBounds_toArray, List.set_cons_zero, List.set_cons_succ]
            | refine seq_pure (v := ?_) rfl (by rfl) (fun W hW => ?_) ?_
              rotate_left
              · clear hW
                go_simp
                with_reducible rfl
              simp only [Act.put, List.setIfInBounds_toArray, List.set_cons_zero, List.set_cons_succ]
          refine seq_make rfl (by rfl) (fun K hK => ?_)
          go_simp
          ((with_reducible refine (HTH.out y3).mono ?_))
          rintro e y4 ⟨rfl, hb⟩
          have SBy4 := Lib.hid (show Below v3.heap.size v3 y4 from SBy3.out.trans (hb.mono SBy3.out.size))
          clear hb
          go_simp
          refine hK _ _ (fun W => Below v3.heap.size v3 W) (fun W h => h) SBy4.out ?_
          clear hK K
          repeat first
            | refine seq_load_at15 rfl (by rfl) rfl rfl (fun W hW => HC.out W (V4.out.bel.trans (hW.mono V4.out.bel.size))) Try.underlying42 rfl HIN.out ?_
              simp only [Act.put, List.setIfInBounds_toArray, List.set_cons_zero, List.set_cons_succ]
            | refine seq_skip rfl (by rfl) ?_
              simp only [Act.put, List.setIfInBounds_toArray, List.set_cons_zero, List.set_cons_succ]
            | refine seq_pure (v := ?_) rfl (by rfl) (fun W hW => ?_) ?_
              rotate_left
              · clear hW
                go_simp
                with_reducible rfl
              simp only [Act.put, List.setIfInBounds_toArray, List.set_cons_zero, List.set_cons_succ]
          refine seq_make rfl (by rfl) (fun K hK => ?_)
          go_simp
          ((with_reducible refine (HMA.out y4).mono ?_))
          rintro e y5 ⟨rfl, hb⟩
          have SBy5 := Lib.hid (show Below v3.heap.size v3 y5 from SBy4.out.trans (hb.mono SBy4.out.size))
          clear hb
          go_simp
          refine hK _ _ (fun W => Below v3.heap.size v3 W) (fun W h => h) SBy5.out ?_
          clear hK K
          repeat first
            | refine seq_load_at15 rfl (by rfl) rfl rfl (fun W hW => HC.out W (V4.out.bel.trans (hW.mono V4.out.bel.size))) Try.underlying42 rfl HIN.out ?_
              simp only [Act.put, List.setIfInBounds_toArray, List.set_cons_zero, List.set_cons_succ]
            | refine seq_skip rfl (by rfl) ?_
              simp only [Act.put, List.setIfInBounds_toArray, List.set_cons_zero, List.set_cons_succ]
            | refine seq_pure (v := ?_) rfl (by rfl) (fun W hW => ?_) ?_
              rotate_left
              · clear hW
                go_simp
                with_reducible rfl
              simp only [Act.put, List.setIfInBounds_toArray, List.set_cons_zero, List.set_cons_succ]
          refine seq_make rfl (by rfl) (fun K hK => ?_)
          go_simp
          ((with_reducible refine (HRM.out y5).mono ?_))
          rintro e y6 ⟨rfl, hb⟩
          have SBy6 := Lib.hid (show Below v3.heap.size v3 y6 from SBy5.out.trans (hb.mono SBy5.out.size))
          clear hb
          go_simp
          refine hK _ _ (fun W => Below v3.heap.size v3 W) (fun W h => h) SBy6.out ?_
          clear hK K
          repeat first
            | refine seq_load_at15 rfl (by rfl) rfl rfl (fun W hW => HC.out W (V4.out.bel.trans (hW.mono V4.out.bel.size))) Try.underlying42 rfl HIN.out ?_
              simp only [Act.put, List.setIfInBounds_toArray, List.set_cons_zero, List.set_cons_succ]
            | refine seq_skip rfl (by rfl) ?_
              simp only [Act.put, List.setIfInBounds_toArray, List.set_cons_zero, List.set_cons_succ]
            | refine seq_pure (v := ?_) rfl (by rfl) (fun W hW => ?_) ?_
              rotate_left
              · clear hW
                go_simp
                with_reducible rfl
              simp only [Act.put, List.setIfInBounds_toArray, List.set_cons_zero, List.set_cons_succ]
          refine seq_done ?_
          have V6 := Lib.hid (V4.out.below SBy6.out)
          have R6 := Lib.hid (RN.out.below SBy6.out)
          go_wp2_with fail
          go_roundw
          case rel => exact ⟨i + 1, b2, _, _, by have := HI1.out; omega, by have := HI1.out; omega, rfl, by first | rfl | (simp; omega), V6.out, R6.out⟩
          case measure => have := HI1.out; simp [intOf]; omega
      · by_cases h9 : i < n1
        · have i1 : (i : Int) < (n1 : Int) := by omega
          have i2 : ¬ (i : Int) < 100 := by omega
          clear hlt
          go_wp2_with fail
          go_ret
          exact ⟨rfl, V.out.bel⟩
        · have i1 : ¬ (i : Int) < (n1 : Int) := by omega
          clear hlt
          go_wp2_with fail
          go_ret
          exact ⟨rfl, V.out.bel⟩
end Go.Proofs.Ytmfmjdkeoiebpaa
