/-
  The law TedbNewer, walked: for any network and any adverts the answer is true, and nothing that was there has turned. Condition: numbers as large as their types allow.
-/
import Derived.Test.YtmfmjdkeoiebpaaTewJ
namespace Go.Proofs.Ytmfmjdkeoiebpaa
set_option maxRecDepth 100000
set_option linter.unusedVariables false
open Go.RowKit

set_option maxHeartbeats 12800000 in
theorem newer15_walk (n : Int) (a : Option Addr) (m c : Nat) (w : World) (hk : I15 n ∧ m ≤ maxLen ∧ ∃ es, Row lkc w w.heap.size a m es ∧ ∀ x ∈ es, LkB x) (a1 : Option Addr) (n1 c1 : Nat) (h1 : n1 ≤ maxLen) (ho : ∃ l, Row adc w w.heap.size a1 n1 l ∧ ∀ x ∈ l, AdOk x ∧ I15 x.q) :
    Calls Try.prog 6 #[.agg #[.int .i64 n, .slice a m c], .slice a1 n1 c1] w fun e w' => e = .returned (.bool true) ∧ Below w.heap.size w w' := by
  obtain ⟨hI, hm, L, hrl, hlb⟩ := hk
  obtain ⟨l, hr, hok⟩ := ho
  have HRL := Lib.hid hrl
  have HLB := Lib.hid hlb
  have HI := Lib.hid hI
  unfold maxLen at hm
  have HR := Lib.hid hr
  have HOK := Lib.hid hok
  unfold maxLen at h1
  clear hr hok
  have NB1 := Lib.hid (show Blk (w.alloc (.cells #[.int .i64 n, .slice a m c] 24)) w.heap.size 24 [.int .i64 n, .slice a m c] from Blk.new w 24 [.int .i64 n, .slice a m c])
  have L1 := Lib.hid (bel_new (Below.refl w.heap.size w) (.cells #[.int .i64 n, .slice a m c] 24))
  clear hrl hlb hI
  go_enter Try.func6, Try.ntmps6
  go_upto_region 1 with fail
  generalize (w.alloc (.cells #[.int .i64 n, .slice a m c] 24)) = w1 at *
  go_wp2_with fail
  ((with_reducible refine (alive15_calls w1).mono ?_))
  rintro e w2 ⟨rfl, hb⟩
  have NB2 := Lib.hid (NB1.out.below hb)
  have L2 := Lib.hid (L1.out.trans (hb.mono L1.out.size))
  clear hb NB1 L1
  have x1 : w2.cell? ⟨w.heap.size, 1, none⟩ = some (.slice a m c) := NB2.out.cell 1
  by_cases q0 : 100 < m
  · have q0' : (100 : Int) < (m : Int) := by omega
    go_wp2_with fail
    go_ret
    exact ⟨rfl, L2.out⟩
  have q0' : ¬ (100 : Int) < (m : Int) := by omega
  have HM := Lib.hid (show m ≤ 100 by omega)
  clear q0
  have x0 : w2.cell? ⟨w.heap.size, 0, none⟩ = some (.int .i64 n) := NB2.out.cell 0
  by_cases hz : chk n L = 0
  case neg =>
    have hn := new15_no n a m c L w2 ((HRL.out.below L2.out).more L2.out.size) HI.out.1 HI.out.2 (by have := HM.out; omega) hz
    have HN := Lib.hid hn
    have HZ := Lib.hid hz
    clear hn hz
    go_wp2_with fail
    ((with_reducible refine HN.out.mono ?_))
    rintro e w3 ⟨rfl, hb⟩
    have NB3 := Lib.hid (NB2.out.below hb)
    have L3 := Lib.hid (L2.out.trans (hb.mono L2.out.size))
    clear hb HN x0 x1 NB2 L2
    have x0 : w3.cell? ⟨w.heap.size, 0, none⟩ = some (.int .i64 n) := NB3.out.cell 0
    have x1 : w3.cell? ⟨w.heap.size, 1, none⟩ = some (.slice a m c) := NB3.out.cell 1
    obtain ⟨z, hzz⟩ : ∃ z, chk n L = z := ⟨_, rfl⟩
    have hck := rcheck_calls n a m c L w3 ((HRL.out.below L3.out).more L3.out.size) (by have := HM.out; omega)
    rw [hzz] at hck
    have HCK := Lib.hid hck
    have hzn : (z == 0) = false := beq_eq_false_iff_ne.2 (by rw [← hzz]; exact HZ.out)
    have hzm : (z != 0) = true := bne_iff_ne.2 (by rw [← hzz]; exact HZ.out)
    clear hck hzz
    go_wp2_with fail
    ((with_reducible refine HCK.out.mono ?_))
    rintro e w4 ⟨rfl, hb⟩
    have L4 := Lib.hid (L3.out.trans (hb.mono L3.out.size))
    clear hb HCK x0 x1
    go_wp2_with fail
    go_ret
    exact ⟨rfl, L4.out⟩
  case pos =>
    have hn := new15_yes n a m c L HLB.out w2 ((HRL.out.below L2.out).more L2.out.size) HI.out.1 HI.out.2 (by have := HM.out; omega) hz
    have HN := Lib.hid hn
    have HZ := Lib.hid hz
    have HSM := Lib.hid (chk_small hz)
    have HBS := Lib.hid (bs15_new (chk_small hz).2.1 (fun x hx => HLB.out x hx))
    clear hn hz
    go_wp2_with fail
    ((with_reducible refine HN.out.mono ?_))
    intro e w3 h
    obtain ⟨q, S, rfl, lv, hb, hs⟩ := Liv.start L2.out h
    have V3 := Lib.hid lv
    have NB3 := Lib.hid (show BlkO w3 S w.heap.size 24 [.int .i64 n, .slice a m c] from ⟨NB2.out.below hb, fun h9 => by have := hs _ h9; have := NB2.out.lt; omega⟩)
    clear lv hb hs h HN x0 x1 NB2 L2
    have hm1 : m ≤ 100 := HM.out
    have hbm0 : (bnew L).length = m := by unfold bnew; rw [List.length_map]; exact HRL.out.1
    have hall0 := all15c_calls q (bnew L) S w3 V3.out.bas
    rw [hbm0] at hall0
    unfold Cl15 at hall0
    have HALL0 := Lib.hid hall0
    have HBM0 := Lib.hid hbm0
    clear hall0 hbm0
    go_wp2_with fail
    ((with_reducible refine HALL0.out.mono ?_))
    rintro e w4 ⟨A6, c6, rfl, acc, hb⟩
    have RW := Lib.hid (show RowO adc w4 S A6 m (bnew L) from by have := RowO.of_acc (S := S) (fun x hx => V3.out.bas.lt x hx) acc; rwa [HBM0.out] at this)
    have V := Lib.hid (V3.out.below hb)
    have NB := Lib.hid (NB3.out.below hb)
    clear acc hb HALL0 V3 NB3
    go_wp2_with fail
    go_loopw [6, 7] (fun s t W => ∃ (i : Nat) (b : List Ad) (A6 : Option Addr) (c6 : Nat), i ≤ n1 ∧ i ≤ 100 ∧ s = .slice A6 m c6 ∧ t = .int .i64 (i : Int) ∧ Bs15 L b ∧ Liv w W q b S ∧ RowO adc W S A6 m b ∧ BlkO W S w.heap.size 24 [.int .i64 n, .slice a m c]) (fun s t W => 100 - (intOf t).toNat)
    case atStart => exact ⟨0, bnew L, A6, c6, by omega, by omega, rfl, rfl, HBS.out, V.out, RW.out, NB.out⟩
    case round =>
      clear V RW NB
      obtain ⟨i, b, A6, c6, hin, hi100, rfl, rfl, hbs, hv, hrw, hnb⟩ := hrel
      have B := Lib.hid hbs
      have V := Lib.hid hv
      have RW := Lib.hid hrw
      have NB := Lib.hid hnb
      clear hv hrw hnb hbs
      generalize wr = wo at *
      by_cases hlt : i < n1 ∧ i < 100
      · obtain ⟨hl1, hl2⟩ := hlt
        have i1 : (i : Int) < (n1 : Int) := by omega
        have i2 : (i : Int) < 100 := by omega
        have HI1 := Lib.hid (And.intro hl1 hl2)
        obtain ⟨bb, o, x, rfl, hx, hbb, hc⟩ := range15 HR.out hl1
        have HXO := Lib.hid (HOK.out x (List.mem_of_getElem? hx))
        have HX := Lib.hid hx
        have HC := Lib.hid (fun W (hW : Below w.heap.size w W) => hc W hW)
        have HIN := Lib.hid (show (Try.prog.info? 42).map (·.size) = some (adc x).length from infoAdS15)
        have HTH := Lib.hid (fun W => theirs15_calls x W)
        unfold Back15 at HTH
        clear hx hbb hc
        clear hl1 hl2 hin hi100
        have HC9 := Lib.hid (HC.out wo V.out.bel)
        go_wp2_with (refine step_load_at (o := ⟨some 49, _, _, _, _, _⟩) rfl rfl rfl HC9.out Try.underlying42 rfl HIN.out ?_)
        ((with_reducible refine (HTH.out wo).mono ?_))
        rintro e v2 ⟨rfl, hb⟩
        have V := Lib.hid (V.out.below hb)
        have RW := Lib.hid (RW.out.below hb)
        have NB := Lib.hid (NB.out.below hb)
        clear hb
        have hbm : b.length = m := by rw [B.out.length]; exact HRL.out.1
        have hdis : Dis b := B.out.dis HSM.out.2.2
        have hmap := bApply_map hdis x
        have hB2 := bs15_apply HSM.out.2.2 B.out HXO.out.1
        have hchg : ∃ k, ((bApply b x).2.1 = true → k < m ∧ (bApply b x).2.2 = 0) ∧ ∀ j y z, (bApply b x).1[j]? = some y → b[j]? = some z → (y ≠ z ↔ (bApply b x).2.1 = true ∧ j = k) := by
          rcases bApply_cases b x with ⟨hd, hb1⟩ | ⟨k, hk, hpl, hvl, hend, hqq, hba⟩
          · refine ⟨0, (fun h => by rw [hd] at h; cases h), fun j y z hy hz => ?_⟩
            rw [hb1, hz] at hy
            injection hy with hy
            exact ⟨fun h => absurd hy.symm h, (fun h => by rw [hd] at h; cases h.1)⟩
          · refine ⟨k, fun _ => ⟨by omega, by rw [hba]⟩, fun j y z hy hz => ?_⟩
            rw [hba] at hy ⊢
            simp only at hy ⊢
            rw [List.getElem?_set] at hy
            by_cases hjk : k = j
            · subst hjk
              rw [if_pos rfl, if_pos hk] at hy
              injection hy with hy
              rw [List.getElem?_eq_getElem hk] at hz
              injection hz with hz
              refine ⟨fun _ => ⟨by first | rfl | trivial, rfl⟩, fun _ e => ?_⟩
              rw [← hy, ← hz] at e
              rw [e] at hqq
              omega
            · rw [if_neg hjk, hz] at hy
              injection hy with hy
              exact ⟨fun h => absurd hy.symm h, fun h => absurd h.2.symm hjk⟩
        have hap := apply15c_calls q b S x HXO.out.1 HXO.out.2 v2 V.out.bas
        unfold Ap15 at hap
        obtain ⟨r, hr⟩ : ∃ r, bApply b x = r := ⟨_, rfl⟩
        rw [hr] at hap hmap hB2
        simp only [hr] at hchg
        obtain ⟨b2, d, f⟩ := r
        simp only at hap hmap hB2 hchg
        obtain ⟨k, hk1, hk2⟩ := hchg
        have hfac : ∀ (j : Nat) (y z : Ad) (lk : Lk), b2[j]? = some y → b[j]? = some z → L[j]? = some lk → y.k.f = lk.f ∧ y.k.t = lk.t ∧ z.q ≤ y.q ∧ vldA y = true := fun j y z lk hy hz hl => by
          have h1 := hB2.vld y (List.mem_of_getElem? hy)
          rw [hmap, List.getElem?_map, hz] at hy
          injection hy with hy
          replace hy : slot z x = y := hy
          have h2 := slot_q z x
          have h3 := slot_ends z x
          have h5 : ends15 z.k = ends15 lk := by
            have h4 := congrArg (fun l : List (Int × Int) => l[j]?) B.out.ends
            simp only [List.getElem?_map, hz, hl, Option.map_some, Option.some.injEq] at h4
            exact h4
          rw [hy] at h2 h3
          have h6 := h3.trans h5
          exact ⟨congrArg Prod.fst h6, congrArg Prod.snd h6, h2, h1⟩
        have hb2l : b2.length = m := by rw [hB2.length]; exact HRL.out.1
        have HAP := Lib.hid hap
        have B2 := Lib.hid hB2
        have HK1 := Lib.hid hk1
        have HK2 := Lib.hid hk2
        have HFAC := Lib.hid hfac
        have HB2 := Lib.hid hb2l
        clear hap hmap hB2 hk1 hk2 hfac hb2l hr hdis hbm
        go_wp2_with fail
        ((with_reducible refine HAP.out.mono ?_))
        rintro e w5 ⟨rfl, hb, ht⟩
        have RW := Lib.hid (RW.out.turn ht)
        have NB := Lib.hid (NB.out.turn ht)
        have V := Lib.hid (V.out.apply hb ht)
        clear hb ht HAP
        have hall := all15c_calls q b2 S w5 V.out.bas
        rw [HB2.out] at hall
        unfold Cl15 at hall
        have HALL := Lib.hid hall
        clear hall
        go_wp2_with fail
        ((with_reducible refine HALL.out.mono ?_))
        rintro e w6 ⟨A10, c10, rfl, acc, hb⟩
        have RN := Lib.hid (show RowO adc w6 S A10 m b2 from by have := RowO.of_acc (S := S) (fun x hx => V.out.bas.lt x hx) acc; rwa [HB2.out] at this)
        have RW := Lib.hid (RW.out.below hb)
        have NB := Lib.hid (NB.out.below hb)
        have V := Lib.hid (V.out.below hb)
        clear acc hb HALL
        have HBK := Lib.hid (fun y (hy : y ∈ b) => (B.out.ok y hy))
        have HBK2 := Lib.hid (fun y (hy : y ∈ b2) => (B2.out.ok y hy))
        have x1 : w6.cell? ⟨w.heap.size, 1, none⟩ = some (.slice a m c) := NB.out.blk.cell 1
        have hmm : ((m : Int) != (m : Int)) = false := by simp
        go_wp2_with fail
        clear x1
        go_loopw [11, 64] (fun s t W => ∃ j : Nat, j ≤ m ∧ s = .int .i64 (if d = true ∧ k < j then 1 else 0) ∧ t = .int .i64 (j : Int) ∧ RowO adc W S A6 m b ∧ RowO adc W S A10 m b2 ∧ BlkO W S w.heap.size 24 [.int .i64 n, .slice a m c] ∧ Liv w W q b2 S) (fun s t W => m - (intOf t).toNat)
        case atStart => exact ⟨0, by omega, by rw [if_neg (by omega)], rfl, RW.out, RN.out, NB.out, V.out⟩
        case round =>
          clear RW RN NB V
          obtain ⟨j, hj, rfl, rfl, hrw, hrn, hnb, hv⟩ := hrel
          have RW := Lib.hid hrw
          have RN := Lib.hid hrn
          have NB := Lib.hid hnb
          have V := Lib.hid hv
          clear hrw hrn hnb hv
          by_cases hjm : j < m
          · have j1 : (j : Int) < (m : Int) := by omega
            have HJ := Lib.hid hjm
            obtain ⟨gn, on, y, rfl, hy, _, hcn⟩ := range15 RN.out.row hjm
            obtain ⟨gw, ow, z, rfl, hz, _, hcw⟩ := range15 RW.out.row hjm
            obtain ⟨gl, ol, lk, rfl, hlk, _, hcl⟩ := cells15 lkc_length HRL.out hjm
            obtain ⟨f1, f2, f3, f4⟩ := HFAC.out j y z lk hy hz hlk
            have HCN := Lib.hid hcn
            have HCW := Lib.hid hcw
            have hyo := HBK2.out y (List.mem_of_getElem? hy)
            have hzo := HBK.out z (List.mem_of_getElem? hz)
            obtain ⟨dn, hdn⟩ : ∃ dn, (!decide (y = z)) = dn := ⟨_, rfl⟩
            have HNE := Lib.hid (fun W => (eq_adT15 hyo hzo W).2)
            rw [hdn] at HNE
            have HDN := Lib.hid (show (dn = true ↔ d = true ∧ j = k) from by rw [← hdn]; have := HK2.out j y z hy hz; simpa using this)
            have hmay := fun W => rmay15_calls y hyo W
            unfold May15 at hmay
            rw [f4] at hmay
            have HMAY := Lib.hid (fun W => (show Calls Try.prog 22 #[.agg #[.int .i64 y.k.f, .int .i64 y.k.t, .int .u64 y.k.c, .int .i64 y.k.m, .int .u32 y.k.g, .int .i64 y.q, .bool y.up, .int .u64 ((y.f[0]?.getD 0 : Nat) : Int), .int .u64 ((y.f[1]?.getD 0 : Nat) : Int), .int .u64 ((y.f[2]?.getD 0 : Nat) : Int), .int .u64 ((y.f[3]?.getD 0 : Nat) : Int), .int .u64 ((y.f[4]?.getD 0 : Nat) : Int), .int .u64 ((y.f[5]?.getD 0 : Nat) : Int), .int .u64 ((y.f[6]?.getD 0 : Nat) : Int), .int .u64 ((y.f[7]?.getD 0 : Nat) : Int)]] W (fun e w' => e = .returned (.bool true) ∧ Below W.heap.size W w') from hmay W))
            have HIY := Lib.hid (show (Try.prog.info? 40).map (·.size) = some (adc y).length from infoAdTS15)
            obtain ⟨cnt, hcnt⟩ : ∃ cnt : Int, (if d = true ∧ k < j then 1 else 0) = cnt := ⟨_, rfl⟩
            have HCNT := Lib.hid hcnt
            have hc01 : 0 ≤ cnt ∧ cnt ≤ 1 := by rw [← hcnt]; split <;> omega
            obtain ⟨hc0, hc1⟩ := hc01
            rw [hcnt]
            have HNB := Lib.hid (fun W (hW : Below wr.heap.size wr W) => (show W.cell? ⟨w.heap.size, 1, none⟩ = some (.slice (some ⟨gl, ol, none⟩) m c) from (NB.out.blk.below hW).cell 1))
            have HCL := Lib.hid (fun W (hW : Below wr.heap.size wr W) => (show W.cell? ⟨gl, ol + j * 5, none⟩ = some (.int .i64 lk.f) ∧ W.cell? ⟨gl, ol + j * 5 + 1, none⟩ = some (.int .i64 lk.t) from ⟨hcl W (V.out.bel.trans (hW.mono V.out.bel.size)) 0 _ rfl, hcl W (V.out.bel.trans (hW.mono V.out.bel.size)) 1 _ rfl⟩))
            have e1 : (y.k.f != lk.f) = false := by simp [f1]
            have e2 : (y.k.t != lk.t) = false := by simp [f2]
            have e3 : decide (y.q < z.q) = false := decide_eq_false (by omega)
            clear hy hz hlk hcn hcw hcl hyo hzo hdn hcnt hjm hj f1 f2 f3 f4 hmay

            go_wp2_with fail
            refine region_seq (fun W => Below wr.heap.size wr W) [(0, true), (1, true), (2, true), (3, true), (4, true), (5, true), (6, true), (7, true), (8, true), (9, true), (10, true), (11, true), (12, true), (13, true), (14, true), (15, true), (16, true), (17, true), (18, true), (19, true), (20, true), (21, true), (22, true), (23, true), (24, true), (25, true), (26, true), (27, true), (28, true), (29, true), (30, true), (31, true), (32, true), (33, true), (34, true), (35, true), (36, true), (37, true), (38, true), (39, true), (40, true), (41, true), (42, true), (43, true), (44, true), (45, true), (46, true), (47, true), (48, true), (49, true), (50, true), (51, true), (52, true), (53, true), (54, true), (55, true), (56, true), (57, true), (58, true), (59, true), (60, true), (61, true), (62, true), (63, false), (64, true), (65, true)] (by kernel_rfl) (by kernel_rfl) (by kernel_rfl) (by kernel_rfl) (fun _ _ _ _ _ h => h) (Below.refl _ _).drew ?_
            repeat first
              | refine seq_pure (v := ?_) rfl (by rfl) (fun W hW => ?_) ?_
                rotate_left
                · clear hW
                  go_simp
                  with_reducible rfl
                simp only [Act.put, List.setIfInBounds_toArray, List.set_cons_zero, List.set_cons_succ]
              | refine seq_pure (v := ?_) rfl (by rfl) (fun W hW => ?_) ?_
                rotate_left
                · have x1 := HNB.out W hW
                  obtain ⟨l0, l1⟩ := HCL.out W hW
                  have z5 : W.cell? ⟨gw, ow + j * 15 + 5, none⟩ = some (.int .i64 z.q) := HCW.out W hW 5 _ rfl
                  have y0 : W.cell? ⟨gn, on + j * 15, none⟩ = some (.int .i64 y.k.f) := HCN.out W hW 0 _ rfl
                  have y1 : W.cell? ⟨gn, on + j * 15 + 1, none⟩ = some (.int .i64 y.k.t) := HCN.out W hW 1 _ rfl
                  have y5 : W.cell? ⟨gn, on + j * 15 + 5, none⟩ = some (.int .i64 y.q) := HCN.out W hW 5 _ rfl
                  have y6 : W.cell? ⟨gn, on + j * 15 + 6, none⟩ = some (.bool y.up) := HCN.out W hW 6 _ rfl
                  clear hW
                  go_simp
                  with_reducible rfl
                simp only [Act.put, List.setIfInBounds_toArray, List.set_cons_zero, List.set_cons_succ]
              | refine seq_pure (v := ?_) rfl (by rfl) (fun W hW => ?_) ?_
                rotate_left
                · have y0 : W.cell? ⟨gn, on + j * 15, none⟩ = some (.int .i64 y.k.f) := HCN.out W hW 0 _ rfl
                  have y1 : W.cell? ⟨gn, on + j * 15 + 1, none⟩ = some (.int .i64 y.k.t) := HCN.out W hW 1 _ rfl
                  have y2 : W.cell? ⟨gn, on + j * 15 + 2, none⟩ = some (.int .u64 y.k.c) := HCN.out W hW 2 _ rfl
                  have y3 : W.cell? ⟨gn, on + j * 15 + 3, none⟩ = some (.int .i64 y.k.m) := HCN.out W hW 3 _ rfl
                  have y4 : W.cell? ⟨gn, on + j * 15 + 4, none⟩ = some (.int .u32 y.k.g) := HCN.out W hW 4 _ rfl
                  have y5 : W.cell? ⟨gn, on + j * 15 + 5, none⟩ = some (.int .i64 y.q) := HCN.out W hW 5 _ rfl
                  have y6 : W.cell? ⟨gn, on + j * 15 + 6, none⟩ = some (.bool y.up) := HCN.out W hW 6 _ rfl
                  have y7 : W.cell? ⟨gn, on + j * 15 + 7, none⟩ = some (.int .u64 ((y.f[0]?.getD 0 : Nat) : Int)) := HCN.out W hW 7 _ rfl
                  have y8 : W.cell? ⟨gn, on + j * 15 + 8, none⟩ = some (.int .u64 ((y.f[1]?.getD 0 : Nat) : Int)) := HCN.out W hW 8 _ rfl
                  have y9 : W.cell? ⟨gn, on + j * 15 + 9, none⟩ = some (.int .u64 ((y.f[2]?.getD 0 : Nat) : Int)) := HCN.out W hW 9 _ rfl
                  have y10 : W.cell? ⟨gn, on + j * 15 + 10, none⟩ = some (.int .u64 ((y.f[3]?.getD 0 : Nat) : Int)) := HCN.out W hW 10 _ rfl
                  have y11 : W.cell? ⟨gn, on + j * 15 + 11, none⟩ = some (.int .u64 ((y.f[4]?.getD 0 : Nat) : Int)) := HCN.out W hW 11 _ rfl
                  have y12 : W.cell? ⟨gn, on + j * 15 + 12, none⟩ = some (.int .u64 ((y.f[5]?.getD 0 : Nat) : Int)) := HCN.out W hW 12 _ rfl
                  have y13 : W.cell? ⟨gn, on + j * 15 + 13, none⟩ = some (.int .u64 ((y.f[6]?.getD 0 : Nat) : Int)) := HCN.out W hW 13 _ rfl
                  have y14 : W.cell? ⟨gn, on + j * 15 + 14, none⟩ = some (.int .u64 ((y.f[7]?.getD 0 : Nat) : Int)) := HCN.out W hW 14 _ rfl
                  clear hW
                  go_simp
                  with_reducible rfl
                simp only [Act.put, List.setIfInBounds_toArray, List.set_cons_zero, List.set_cons_succ]
            refine seq_make rfl (by rfl) (fun K hK => ?_)
            go_simp
            ((with_reducible refine (HMAY.out wr.drew).mono ?_))
            rintro e y9 ⟨rfl, hb0⟩
            have hb := (show Below wr.heap.size wr y9 from below_of_drew hb0)
            clear hb0
            go_simp
            refine hK _ _ (fun W => Below wr.heap.size wr W) (fun W h => h) hb ?_
            clear hK K
            repeat first
              | refine seq_pure (v := ?_) rfl (by rfl) (fun W hW => ?_) ?_
                rotate_left
                · clear hW
                  go_simp
                  with_reducible rfl
                simp only [Act.put, List.setIfInBounds_toArray, List.set_cons_zero, List.set_cons_succ]
              | refine seq_pure (v := ?_) rfl (by rfl) (fun W hW => ?_) ?_
                rotate_left
                · have x1 := HNB.out W hW
                  obtain ⟨l0, l1⟩ := HCL.out W hW
                  have z5 : W.cell? ⟨gw, ow + j * 15 + 5, none⟩ = some (.int .i64 z.q) := HCW.out W hW 5 _ rfl
                  have y0 : W.cell? ⟨gn, on + j * 15, none⟩ = some (.int .i64 y.k.f) := HCN.out W hW 0 _ rfl
                  have y1 : W.cell? ⟨gn, on + j * 15 + 1, none⟩ = some (.int .i64 y.k.t) := HCN.out W hW 1 _ rfl
                  have y5 : W.cell? ⟨gn, on + j * 15 + 5, none⟩ = some (.int .i64 y.q) := HCN.out W hW 5 _ rfl
                  have y6 : W.cell? ⟨gn, on + j * 15 + 6, none⟩ = some (.bool y.up) := HCN.out W hW 6 _ rfl
                  clear hW
                  go_simp
                  with_reducible rfl
                simp only [Act.put, List.setIfInBounds_toArray, List.set_cons_zero, List.set_cons_succ]
              | refine seq_pure (v := ?_) rfl (by rfl) (fun W hW => ?_) ?_
                rotate_left
                · have y0 : W.cell? ⟨gn, on + j * 15, none⟩ = some (.int .i64 y.k.f) := HCN.out W hW 0 _ rfl
                  have y1 : W.cell? ⟨gn, on + j * 15 + 1, none⟩ = some (.int .i64 y.k.t) := HCN.out W hW 1 _ rfl
                  have y2 : W.cell? ⟨gn, on + j * 15 + 2, none⟩ = some (.int .u64 y.k.c) := HCN.out W hW 2 _ rfl
                  have y3 : W.cell? ⟨gn, on + j * 15 + 3, none⟩ = some (.int .i64 y.k.m) := HCN.out W hW 3 _ rfl
                  have y4 : W.cell? ⟨gn, on + j * 15 + 4, none⟩ = some (.int .u32 y.k.g) := HCN.out W hW 4 _ rfl
                  have y5 : W.cell? ⟨gn, on + j * 15 + 5, none⟩ = some (.int .i64 y.q) := HCN.out W hW 5 _ rfl
                  have y6 : W.cell? ⟨gn, on + j * 15 + 6, none⟩ = some (.bool y.up) := HCN.out W hW 6 _ rfl
                  have y7 : W.cell? ⟨gn, on + j * 15 + 7, none⟩ = some (.int .u64 ((y.f[0]?.getD 0 : Nat) : Int)) := HCN.out W hW 7 _ rfl
                  have y8 : W.cell? ⟨gn, on + j * 15 + 8, none⟩ = some (.int .u64 ((y.f[1]?.getD 0 : Nat) : Int)) := HCN.out W hW 8 _ rfl
                  have y9 : W.cell? ⟨gn, on + j * 15 + 9, none⟩ = some (.int .u64 ((y.f[2]?.getD 0 : Nat) : Int)) := HCN.out W hW 9 _ rfl
                  have y10 : W.cell? ⟨gn, on + j * 15 + 10, none⟩ = some (.int .u64 ((y.f[3]?.getD 0 : Nat) : Int)) := HCN.out W hW 10 _ rfl
                  have y11 : W.cell? ⟨gn, on + j * 15 + 11, none⟩ = some (.int .u64 ((y.f[4]?.getD 0 : Nat) : Int)) := HCN.out W hW 11 _ rfl
                  have y12 : W.cell? ⟨gn, on + j * 15 + 12, none⟩ = some (.int .u64 ((y.f[5]?.getD 0 : Nat) : Int)) := HCN.out W hW 12 _ rfl
                  have y13 : W.cell? ⟨gn, on + j * 15 + 13, none⟩ = some (.int .u64 ((y.f[6]?.getD 0 : Nat) : Int)) := HCN.out W hW 13 _ rfl
                  have y14 : W.cell? ⟨gn, on + j * 15 + 14, none⟩ = some (.int .u64 ((y.f[7]?.getD 0 : Nat) : Int)) := HCN.out W hW 14 _ rfl
                  clear hW
                  go_simp
                  with_reducible rfl
                simp only [Act.put, List.setIfInBounds_toArray, List.set_cons_zero, List.set_cons_succ]
            refine seq_done ?_
            have HCWY := Lib.hid (fun W (hW : Below y9.heap.size y9 W) => HCW.out W (hb.trans (hW.mono hb.size)))
            have HCNY := Lib.hid (fun W (hW : Below y9.heap.size y9 W) => HCN.out W (hb.trans (hW.mono hb.size)))
            have RW := Lib.hid (RW.out.below hb)
            have RN := Lib.hid (RN.out.below hb)
            have NB := Lib.hid (NB.out.below hb)
            have V := Lib.hid (V.out.below hb)
            clear hb HMAY HCN HCW e1 e2 e3
            go_wp2_with fail
            refine region_seq (fun W => Below y9.heap.size y9 W) [(0, true), (1, true), (2, true), (3, true), (4, true), (5, true), (6, true), (7, true), (8, true)] (by kernel_rfl) (by kernel_rfl) (by kernel_rfl) (by kernel_rfl) (fun _ _ _ _ _ h => h) (Below.refl _ _).drew ?_
            repeat first
              | refine seq_load_at15 rfl (by rfl) rfl rfl HCNY.out Try.underlying40 rfl HIY.out ?_
                simp only [Act.put, List.setIfInBounds_toArray, List.set_cons_zero, List.set_cons_succ]
              | refine seq_load_at15 rfl (by rfl) rfl rfl HCWY.out Try.underlying40 rfl HIY.out ?_
                simp only [Act.put, List.setIfInBounds_toArray, List.set_cons_zero, List.set_cons_succ]
              | refine seq_neA (xs := adc y) (ys := adc z) (c := dn) rfl (by rfl) rfl rfl rfl (by kernel_rfl) HNE.out ?_
                simp only [Act.put, List.setIfInBounds_toArray, List.set_cons_zero, List.set_cons_succ]
              | refine seq_pure (v := ?_) rfl (by rfl) (fun W hW => ?_) ?_
                rotate_left
                · clear hW
                  go_simp
                  with_reducible rfl
                simp only [Act.put, List.setIfInBounds_toArray, List.set_cons_zero, List.set_cons_succ]
            refine seq_done ?_
            have hdr := (Below.refl y9.heap.size y9).drew
            have RW := Lib.hid (RW.out.below hdr)
            have RN := Lib.hid (RN.out.below hdr)
            have NB := Lib.hid (NB.out.below hdr)
            have V := Lib.hid (V.out.below hdr)
            clear hdr
            cases dn with
            | true =>
              have hdk := HDN.out.1 rfl
              have hcz : cnt = 0 := by rw [← HCNT.out, if_neg (by omega)]
              have HDK := Lib.hid hdk
              subst hcz
              clear hdk
              go_wp2_with fail
              go_roundw
              case rel => exact ⟨j + 1, by have := HJ.out; omega, by rw [if_pos ⟨HDK.out.1, by have := HDK.out.2; omega⟩], by first | rfl | (simp; omega), RW.out, RN.out, NB.out, V.out⟩
              case measure => have := HJ.out; simp [intOf]; omega
            | false =>
              have hdk : ¬ (d = true ∧ j = k) := fun h => by have := HDN.out.2 h; cases this
              have HDK := Lib.hid hdk
              clear hdk
              go_wp2_with fail
              go_roundw
              case rel => exact ⟨j + 1, by have := HJ.out; omega, by
                rw [← HCNT.out]
                congr 1
                by_cases hd : d = true
                · have : j ≠ k := fun e => HDK.out ⟨hd, e⟩
                  by_cases hkj : k < j
                  · rw [if_pos ⟨hd, hkj⟩, if_pos ⟨hd, by omega⟩]
                  · rw [if_neg (fun h => hkj h.2), if_neg (fun h => by have := h.2; omega)]
                · rw [if_neg (fun h => hd h.1), if_neg (fun h => hd h.1)], by first | rfl | (simp; omega), RW.out, RN.out, NB.out, V.out⟩
              case measure => have := HJ.out; simp [intOf]; omega
          · obtain rfl : j = m := by omega
            have j1 : ¬ (j : Int) < (j : Int) := by omega
            clear hjm hj
            cases d with
            | true =>
              have hk := HK1.out rfl
              have hf := hk.2
              subst hf
              rw [if_pos ⟨rfl, hk.1⟩]
              clear hk
              go_wp2_with fail
              go_roundw
              case rel => exact ⟨i + 1, b2, A10, c10, by have := HI1.out; omega, by have := HI1.out; omega, rfl, by first | rfl | (simp; omega), B2.out, V.out, RN.out, NB.out⟩
              case measure => have := HI1.out; simp [intOf]; omega
            | false =>
              rw [if_neg (fun h => by cases h.1)]
              go_wp2_with fail
              go_roundw
              case rel => exact ⟨i + 1, b2, A10, c10, by have := HI1.out; omega, by have := HI1.out; omega, rfl, by first | rfl | (simp; omega), B2.out, V.out, RN.out, NB.out⟩
              case measure => have := HI1.out; simp [intOf]; omega
      · by_cases h9 : i < n1
        · have i1 : (i : Int) < (n1 : Int) := by omega
          have i2 : ¬ (i : Int) < 100 := by omega
          clear hlt
          go_wp2_with fail
          go_ret
          exact ⟨rfl, V.out.bel⟩
        · have i1 : ¬ (i : Int) < (n1 : Int) := by omega
          clear hlt
          go_wp2_with fail
          go_ret
          exact ⟨rfl, V.out.bel⟩
end Go.Proofs.Ytmfmjdkeoiebpaa
