/-
  The law TedbOrder, walked: for any network, any adverts and any order the answer is true, and nothing that was there has turned. Condition: numbers as large as their types allow.
-/
import Derived.Test.YtmfmjdkeoiebpaaTewC
import Derived.Test.YtmfmjdkeoiebpaaTedOpen
import Derived.Test.YtmfmjdkeoiebpaaTedK
namespace Go.Proofs.Ytmfmjdkeoiebpaa
set_option maxRecDepth 100000
set_option linter.unusedVariables false
open Go.RowKit

set_option maxHeartbeats 12800000 in
theorem order15_walk (n : Int) (a : Option Addr) (m c : Nat) (w : World) (hk : I15 n ∧ m ≤ maxLen ∧ ∃ es, Row lkc w w.heap.size a m es ∧ ∀ x ∈ es, LkB x) (a1 : Option Addr) (n1 c1 : Nat) (h1 : n1 ≤ maxLen) (ho : ∃ l, Row adc w w.heap.size a1 n1 l ∧ ∀ x ∈ l, AdOk x ∧ I15 x.q) (a2 : Option Addr) (n2 c2 : Nat) (h2 : n2 ≤ c2 ∧ c2 ≤ maxLen ∧ ∃ od, Bts w w.heap.size a2 n2 od) :
    Calls Try.prog 5 #[.agg #[.int .i64 n, .slice a m c], .slice a1 n1 c1, .slice a2 n2 c2] w fun e w' => e = .returned (.bool true) ∧ Below w.heap.size w w' := by
  obtain ⟨hI, hm, L, hrl, hlb⟩ := hk
  obtain ⟨l, hr, hok⟩ := ho
  obtain ⟨hnc, hcm, od, hod⟩ := h2
  have HRL := Lib.hid hrl
  have HLB := Lib.hid hlb
  have HI := Lib.hid hI
  unfold maxLen at hm
  have HR := Lib.hid hr
  have HOK := Lib.hid hok
  have HOD := Lib.hid hod
  unfold maxLen at h1 hcm
  have n63 : n2 ≤ 9223372036854775807 := by omega
  clear hr hok hod hnc hcm
  have NB1 := Lib.hid (show Blk (w.alloc (.cells #[.int .i64 n, .slice a m c] 24)) w.heap.size 24 [.int .i64 n, .slice a m c] from Blk.new w 24 [.int .i64 n, .slice a m c])
  have L1 := Lib.hid (bel_new (Below.refl w.heap.size w) (.cells #[.int .i64 n, .slice a m c] 24))
  clear hrl hlb hI
  go_enter Try.func5, Try.ntmps5
  go_upto_region 1 with fail
  generalize (w.alloc (.cells #[.int .i64 n, .slice a m c] 24)) = w1 at *
  go_wp2_with fail
  ((with_reducible refine (alive15_calls w1).mono ?_))
  rintro e w2 ⟨rfl, hb⟩
  have NB2 := Lib.hid (NB1.out.below hb)
  have L2 := Lib.hid (L1.out.trans (hb.mono L1.out.size))
  clear hb NB1 L1
  have x1 : w2.cell? ⟨w.heap.size, 1, none⟩ = some (.slice a m c) := NB2.out.cell 1
  by_cases q0 : 100 < m
  · have q0' : (100 : Int) < (m : Int) := by omega
    go_wp2_with fail
    go_ret
    exact ⟨rfl, L2.out⟩
  have q0' : ¬ (100 : Int) < (m : Int) := by omega
  by_cases q1 : 100 < n1
  · have q1' : (100 : Int) < (n1 : Int) := by omega
    go_wp2_with fail
    go_ret
    exact ⟨rfl, L2.out⟩
  have q1' : ¬ (100 : Int) < (n1 : Int) := by omega
  have HM := Lib.hid (show m ≤ 100 by omega)
  have HN1 := Lib.hid (show n1 ≤ 100 by omega)
  clear q0 q1
  have hun := unlike15_calls a1 n1 c1 l (fun y hy => (HOK.out y hy).1) w2 ((HR.out.below L2.out).more L2.out.size) (by have := HN1.out; omega)
  have HUN := Lib.hid hun
  clear hun
  go_wp2_with fail
  ((with_reducible refine HUN.out.mono ?_))
  rintro e w3 ⟨d, rfl, hd, hb⟩
  have HD := Lib.hid hd
  have NB3 := Lib.hid (NB2.out.below hb)
  have L3 := Lib.hid (L2.out.trans (hb.mono L2.out.size))
  clear hb HUN hd NB2 L2 x1
  cases d with
  | false =>
    go_wp2_with fail
    go_ret
    exact ⟨rfl, L3.out⟩
  | true =>
    have HUL := Lib.hid (HD.out rfl)
    clear HD
    go_wp2_with fail
    refine region_seq (fun W => Below w3.heap.size w3 W) [(0, true), (1, true), (2, true), (3, true), (5, true), (6, true), (7, true), (8, true), (4, false), (9, false), (10, true), (11, true)] (by kernel_rfl) (by kernel_rfl) (by kernel_rfl) (by kernel_rfl) (fun _ _ _ _ _ h => h) (Below.refl _ _).drew ?_
    repeat
      refine seq_pure (v := ?_) rfl (by rfl) (fun W hW => ?_) ?_
      rotate_left
      · have x0 : W.cell? ⟨w.heap.size, 0, none⟩ = some (.int .i64 n) := (NB3.out.below hW).cell 0
        have x1 : W.cell? ⟨w.heap.size, 1, none⟩ = some (.slice a m c) := (NB3.out.below hW).cell 1
        clear hW
        go_simp
        with_reducible rfl
      simp only [Act.put, List.setIfInBounds_toArray, List.set_cons_zero, List.set_cons_succ]
    by_cases hz : chk n L = 0
    case neg =>
      have HZ := Lib.hid hz
      clear hz
      refine seq_make rfl (by rfl) (fun K hK => ?_)
      go_simp
      have hn := new15_no n a m c L w3.drew ((HRL.out.below (L3.out.drew)).more (L3.out.drew).size) HI.out.1 HI.out.2 (by have := HM.out; omega) HZ.out
      ((with_reducible refine hn.mono ?_))
      rintro e y1 ⟨rfl, hb⟩
      have SBy1 := Lib.hid (show Below w3.heap.size w3 y1 from below_of_drew hb)
      clear hb hn
      go_simp
      refine hK _ _ (fun W => Below w3.heap.size w3 W) (fun W h => h) SBy1.out ?_
      clear hK K
      repeat
        refine seq_pure (v := ?_) rfl (by rfl) (fun W hW => ?_) ?_
        rotate_left
        · have x0 : W.cell? ⟨w.heap.size, 0, none⟩ = some (.int .i64 n) := (NB3.out.below hW).cell 0
          have x1 : W.cell? ⟨w.heap.size, 1, none⟩ = some (.slice a m c) := (NB3.out.below hW).cell 1
          clear hW
          go_simp
          with_reducible rfl
        simp only [Act.put, List.setIfInBounds_toArray, List.set_cons_zero, List.set_cons_succ]
      refine seq_make rfl (by rfl) (fun K hK => ?_)
      go_simp
      have hn := new15_no n a m c L y1 ((HRL.out.below (L3.out.trans (SBy1.out.mono L3.out.size))).more (L3.out.trans (SBy1.out.mono L3.out.size)).size) HI.out.1 HI.out.2 (by have := HM.out; omega) HZ.out
      ((with_reducible refine hn.mono ?_))
      rintro e y2 ⟨rfl, hb⟩
      have SBy2 := Lib.hid (show Below w3.heap.size w3 y2 from SBy1.out.trans (hb.mono SBy1.out.size))
      clear hb hn
      go_simp
      refine hK _ _ (fun W => Below w3.heap.size w3 W) (fun W h => h) SBy2.out ?_
      clear hK K
      repeat
        refine seq_pure (v := ?_) rfl (by rfl) (fun W hW => ?_) ?_
        rotate_left
        · have x0 : W.cell? ⟨w.heap.size, 0, none⟩ = some (.int .i64 n) := (NB3.out.below hW).cell 0
          have x1 : W.cell? ⟨w.heap.size, 1, none⟩ = some (.slice a m c) := (NB3.out.below hW).cell 1
          clear hW
          go_simp
          with_reducible rfl
        simp only [Act.put, List.setIfInBounds_toArray, List.set_cons_zero, List.set_cons_succ]
      refine seq_done ?_
      have L4 := Lib.hid (L3.out.trans (SBy2.out.mono L3.out.size))
      clear SBy1 SBy2
      go_wp2_with fail
      go_ret
      exact ⟨rfl, L4.out⟩
    case pos =>
      have HZ := Lib.hid hz
      have HSM := Lib.hid (chk_small hz)
      have HBS := Lib.hid (bs15_new (chk_small hz).2.1 (fun x hx => HLB.out x hx))
      clear hz
      refine seq_make rfl (by rfl) (fun K hK => ?_)
      go_simp
      have hn := new15_yes n a m c L HLB.out w3.drew ((HRL.out.below (L3.out.drew)).more (L3.out.drew).size) HI.out.1 HI.out.2 (by have := HM.out; omega) HZ.out
      ((with_reducible refine hn.mono ?_))
      intro e y1 h
      obtain ⟨q, S, rfl, lv, hb, hs⟩ := Liv.start L3.out.drew h
      have VA := Lib.hid lv
      have SBy1 := Lib.hid (show Below w3.heap.size w3 y1 from below_of_drew hb)
      clear lv hb hn h hs
      go_simp
      refine hK _ _ (fun W => Below w3.heap.size w3 W) (fun W h => h) SBy1.out ?_
      clear hK K
      repeat
        refine seq_pure (v := ?_) rfl (by rfl) (fun W hW => ?_) ?_
        rotate_left
        · have x0 : W.cell? ⟨w.heap.size, 0, none⟩ = some (.int .i64 n) := (NB3.out.below hW).cell 0
          have x1 : W.cell? ⟨w.heap.size, 1, none⟩ = some (.slice a m c) := (NB3.out.below hW).cell 1
          clear hW
          go_simp
          with_reducible rfl
        simp only [Act.put, List.setIfInBounds_toArray, List.set_cons_zero, List.set_cons_succ]
      refine seq_make rfl (by rfl) (fun K hK => ?_)
      go_simp
      have hn := new15_yes n a m c L HLB.out y1 ((HRL.out.below (L3.out.trans (SBy1.out.mono L3.out.size))).more (L3.out.trans (SBy1.out.mono L3.out.size)).size) HI.out.1 HI.out.2 (by have := HM.out; omega) HZ.out
      ((with_reducible refine hn.mono ?_))
      intro e y2 h
      obtain ⟨q2, S2, rfl, lv, hb, hs⟩ := Liv.start VA.out.bel h
      have DAB := Lib.hid (show ∀ x ∈ S, x ∉ S2 from fun x hx h9 => by have := VA.out.bas.lt x hx; have := hs x h9; omega)
      have DBA := Lib.hid (show ∀ x ∈ S2, x ∉ S from fun x h9 hx => by have := VA.out.bas.lt x hx; have := hs x h9; omega)
      have VA := Lib.hid (VA.out.below hb)
      have VB := Lib.hid lv
      have SBy2 := Lib.hid (show Below w3.heap.size w3 y2 from SBy1.out.trans (hb.mono SBy1.out.size))
      clear lv hb hn h hs
      go_simp
      refine hK _ _ (fun W => Below w3.heap.size w3 W) (fun W h => h) SBy2.out ?_
      clear hK K
      repeat
        refine seq_pure (v := ?_) rfl (by rfl) (fun W hW => ?_) ?_
        rotate_left
        · have x0 : W.cell? ⟨w.heap.size, 0, none⟩ = some (.int .i64 n) := (NB3.out.below hW).cell 0
          have x1 : W.cell? ⟨w.heap.size, 1, none⟩ = some (.slice a m c) := (NB3.out.below hW).cell 1
          clear hW
          go_simp
          with_reducible rfl
        simp only [Act.put, List.setIfInBounds_toArray, List.set_cons_zero, List.set_cons_succ]
      refine seq_done ?_
      clear SBy1 SBy2 L3 NB3
      have hn1 : n1 ≤ 100 := HN1.out
      go_wp2_with fail
      go_loopw [53] (fun t W => ∃ i : Nat, i ≤ n1 ∧ t = .int .i64 (i : Int) ∧ Liv w W q (told (bnew L) (l.take i)) S ∧ Liv w W q2 (bnew L) S2) (fun t W => n1 - (intOf t).toNat)
      case atStart => exact ⟨0, by omega, rfl, VA.out, VB.out⟩
      case round =>
        clear VA VB
        obtain ⟨i, hi, rfl, hva, hvb⟩ := hrel
        have VA := Lib.hid hva
        have VB := Lib.hid hvb
        clear hva hvb
        by_cases hin : i < n1
        · have i1 : (i : Int) < (n1 : Int) := by omega
          have HI1 := Lib.hid hin
          obtain ⟨bb, o, x, rfl, hx, hbb, hc⟩ := range15 HR.out hin
          have HXO := Lib.hid (HOK.out x (List.mem_of_getElem? hx))
          have HX := Lib.hid hx
          have HC := Lib.hid (fun W (hW : Below w.heap.size w W) => hc W hW)
          have HIN := Lib.hid (show (Try.prog.info? 42).map (·.size) = some (adc x).length from infoAdS15)
          have HTH := Lib.hid (fun W => theirs15_calls x W)
          unfold Back15 at HTH
          clear hx hbb hc
          clear hin hi
          have hbz := bel_new (Below.refl wr.heap.size wr) (.cells #[.int .i64 0, .int .i64 0, .int .u64 0, .int .i64 0, .int .u32 0, .int .i64 0, .bool false, .int .u64 0, .int .u64 0, .int .u64 0, .int .u64 0, .int .u64 0, .int .u64 0, .int .u64 0, .int .u64 0] 42)
          have BZ := Lib.hid (show Blk (wr.alloc (.cells #[.int .i64 0, .int .i64 0, .int .u64 0, .int .i64 0, .int .u32 0, .int .i64 0, .bool false, .int .u64 0, .int .u64 0, .int .u64 0, .int .u64 0, .int .u64 0, .int .u64 0, .int .u64 0, .int .u64 0] 42)) wr.heap.size 42 zr15 from Blk.new wr _ zr15)
          have VAz := Lib.hid (VA.out.below hbz)
          have VAN := Lib.hid (VA.out.new)
          have VBz := Lib.hid (VB.out.below hbz)
          have VBN := Lib.hid (VB.out.new)
          have QZ := Lib.hid VA.out.bel.size
          have HCW := Lib.hid (HC.out wr VA.out.bel)
          clear hbz VA VB
          go_upto_region 11 with (first | (refine step_load_at (o := ⟨some 56, _, _, _, _, _⟩) rfl rfl rfl HCW.out Try.underlying42 rfl HIN.out ?_) | ((with_reducible refine step_store (o := ⟨none, _, _, _, _, _⟩) (vs := adc x) (ty := 42) (x := .tmp 10) (y := .tmp 56) ?_ ?_ ?_ ?_ BZ.out HIN.out rfl (adc_one _) ?_); (rfl); (rfl); (rfl); (rfl); intro v1 hb5 hg5 hs5))
          have VA := Lib.hid (VAz.out.stored hg5 VAN.out QZ.out)
          have VB := Lib.hid (VBz.out.stored hg5 VBN.out QZ.out)
          have KX := Lib.hid hb5
          clear hb5 hg5 hs5 BZ HCW QZ VAz VAN VBz VBN
          generalize wr.heap.size = qx at *
          go_wp2_with (refine step_load (o := ⟨some 58, _, _, _, _, _⟩) rfl rfl rfl KX.out Try.underlying42 rfl HIN.out ?_)
          ((with_reducible refine (HTH.out v1).mono ?_))
          rintro e v2 ⟨rfl, hb⟩
          have VA := Lib.hid (VA.out.below hb)
          have VB := Lib.hid (VB.out.below hb)
          clear hb
          clear KX
          have hap := apply15c_calls q (told (bnew L) (l.take i)) S x HXO.out.1 HXO.out.2 v2 VA.out.bas
          obtain ⟨r, hr⟩ : ∃ r, bApply (told (bnew L) (l.take i)) x = r := ⟨_, rfl⟩
          rw [hr] at hap
          unfold Ap15 at hap
          have HAP := Lib.hid hap
          have HRE := Lib.hid hr
          clear hap hr
          go_wp2_with fail
          ((with_reducible refine HAP.out.mono ?_))
          rintro e v3 ⟨rfl, hb, ht⟩
          have VB := Lib.hid (VB.out.beside ht DBA.out VA.out.own)
          have VA := Lib.hid (VA.out.apply hb ht)
          clear hb ht HAP
          have VA := Lib.hid (show Liv w v3 q (told (bnew L) (l.take (i + 1))) S from by rw [take_snoc15 HX.out, told_snoc, HRE.out]; exact VA.out)
          go_wp2_with fail
          go_roundw
          case rel => exact ⟨i + 1, by have := HI1.out; omega, by first | rfl | (simp; omega), VA.out, VB.out⟩
          case measure => have := HI1.out; simp [intOf]; omega
        · obtain rfl : i = n1 := by omega
          have i1 : ¬ (i : Int) < (i : Int) := by omega
          clear hin hi
          have htk : l.take i = l := List.take_of_length_le (by rw [HR.out.1]; exact Nat.le_refl _)
          have VA := Lib.hid (show Liv w wr q (told (bnew L) l) S from by have := VA.out; rwa [htk] at this)
          generalize wr = wo at *
          clear htk
          go_wp2_with fail
          go_loopw [11] (fun t W => ∃ (j : Nat) (lst : List Ad), j ≤ 100 ∧ t = .int .i64 (j : Int) ∧ (∀ y ∈ lst, y ∈ l) ∧ Liv w W q (told (bnew L) l) S ∧ Liv w W q2 (told (bnew L) lst) S2) (fun t W => 100 - (intOf t).toNat)
          case atStart => exact ⟨0, [], by omega, rfl, by simp, VA.out, VB.out⟩
          case round =>
            clear VA VB
            obtain ⟨j, lst, hj, rfl, hls, hva, hvb⟩ := hrel
            have HLS := Lib.hid hls
            have VA := Lib.hid hva
            have VB := Lib.hid hvb
            clear hls hva hvb
            by_cases hgo : j < n2 ∧ j < 100 ∧ 0 < i
            · obtain ⟨j1, j2, j3⟩ := hgo
              have j1' : (j : Int) < (n2 : Int) := by omega
              have j2' : (j : Int) < 100 := by omega
              have j3' : (0 : Int) < (i : Int) := by omega
              have HJ := Lib.hid (And.intro j1 (And.intro j2 j3))
              obtain ⟨g2, o2, rfl, hgb, hoc⟩ := HOD.out.2 (by omega)
              have hjl : j < od.length := by rw [HOD.out.1]; exact j1
              obtain ⟨z, hz⟩ : ∃ z, od[j].toNat = z := ⟨_, rfl⟩
              have hz256 : z < 256 := by rw [← hz]; exact od[j].toNat_lt
              have y0 : wr.cell? ⟨g2, o2 + j, none⟩ = some (.int .u8 (z : Int)) := by
                rw [VA.out.bel.cell (p := ⟨g2, o2 + j, none⟩) hgb, hoc j hjl, ← hz]; rfl
              obtain ⟨k, hk⟩ : ∃ k, z % i = k := ⟨_, rfl⟩
              have hki : k < i := by rw [← hk]; exact Nat.mod_lt _ j3
              have hmod : (z : Int) % (i : Int) = (k : Int) := by rw [← hk]; exact (Int.natCast_emod z i).symm
              have hmod2 : (z : Int).tmod (i : Int) = (k : Int) := by rw [Int.tmod_eq_emod_of_nonneg (by omega)]; exact hmod
              have hki' : (k : Int) < (i : Int) := by omega
              obtain ⟨bb, o, x, rfl, hx, hbb, hc⟩ := range15 HR.out hki
              have HXO := Lib.hid (HOK.out x (List.mem_of_getElem? hx))
              have HX := Lib.hid hx
              have HC := Lib.hid (fun W (hW : Below w.heap.size w W) => hc W hW)
              have HIN := Lib.hid (show (Try.prog.info? 42).map (·.size) = some (adc x).length from infoAdS15)
              have HTH := Lib.hid (fun W => theirs15_calls x W)
              unfold Back15 at HTH
              clear hx hbb hc
              clear hz hgb hoc hjl hk hki j1 j2 j3 hj
              have HC9 := Lib.hid (HC.out wr VA.out.bel)
              go_wp2_with (refine step_load_at (o := ⟨some 88, _, _, _, _, _⟩) rfl rfl rfl HC9.out Try.underlying42 rfl HIN.out ?_)
              ((with_reducible refine (HTH.out wr).mono ?_))
              rintro e v2 ⟨rfl, hb⟩
              have VA := Lib.hid (VA.out.below hb)
              have VB := Lib.hid (VB.out.below hb)
              clear hb
              clear y0 hmod hmod2
              have hap := apply15c_calls q2 (told (bnew L) lst) S2 x HXO.out.1 HXO.out.2 v2 VB.out.bas
              obtain ⟨r, hr⟩ : ∃ r, bApply (told (bnew L) lst) x = r := ⟨_, rfl⟩
              rw [hr] at hap
              unfold Ap15 at hap
              have HAP := Lib.hid hap
              have HRE := Lib.hid hr
              clear hap hr
              go_wp2_with fail
              ((with_reducible refine HAP.out.mono ?_))
              rintro e v3 ⟨rfl, hb, ht⟩
              have VA := Lib.hid (VA.out.beside ht DAB.out VB.out.own)
              have VB := Lib.hid (VB.out.apply hb ht)
              clear hb ht HAP
              have VB := Lib.hid (show Liv w v3 q2 (told (bnew L) (lst ++ [x])) S2 from by rw [told_snoc, HRE.out]; exact VB.out)
              go_wp2_with fail
              go_roundw
              case rel => exact ⟨j + 1, lst ++ [x], by have := HJ.out; omega, by first | rfl | (simp; omega), fun y hy => by rcases List.mem_append.1 hy with h | h; exact HLS.out y h; rw [List.mem_singleton.1 h]; exact List.mem_of_getElem? HX.out, VA.out, VB.out⟩
              case measure => have := HJ.out; simp [intOf]; omega
            · by_cases h1' : j < n2
              · by_cases h2' : j < 100
                · have j1' : (j : Int) < (n2 : Int) := by omega
                  have j2' : (j : Int) < 100 := by omega
                  have j3' : ¬ (0 : Int) < (i : Int) := by omega
                  clear hgo h1' h2'
                  generalize wr = wp at *
                  go_wp2_with fail
                  go_loopw [12] (fun t W => ∃ (j : Nat) (lst : List Ad), j ≤ i ∧ t = .int .i64 ((j : Int) - 1) ∧ (∀ y ∈ lst, y ∈ l) ∧ (∀ k y, j ≤ k → l[k]? = some y → y ∈ lst) ∧ Liv w W q (told (bnew L) l) S ∧ Liv w W q2 (told (bnew L) lst) S2) (fun t W => (intOf t + 1).toNat)
                  case atStart => exact ⟨i, lst, by omega, by first | rfl | (simp; omega), HLS.out, (fun k y hk hy => by rw [List.getElem?_eq_none (by rw [HR.out.1]; exact hk)] at hy; cases hy), VA.out, VB.out⟩
                  case round =>
                    clear VA VB HLS
                    obtain ⟨j, lst, hj, rfl, hls, hcv, hva, hvb⟩ := hrel
                    have HLS := Lib.hid hls
                    have HCV := Lib.hid hcv
                    have VA := Lib.hid hva
                    have VB := Lib.hid hvb
                    clear hls hcv hva hvb
                    by_cases hj0 : 0 < j
                    · obtain ⟨k, rfl⟩ : ∃ k, j = k + 1 := ⟨j - 1, by omega⟩
                      have e1 : (((k + 1 : Nat) : Int) - 1) = (k : Int) := by omega
                      rw [e1]
                      have HJ := Lib.hid hj
                      have hki : k < i := by omega
                      have hki' : (k : Int) < (i : Int) := by omega
                      obtain ⟨bb, o, x, rfl, hx, hbb, hc⟩ := range15 HR.out hki
                      have HXO := Lib.hid (HOK.out x (List.mem_of_getElem? hx))
                      have HX := Lib.hid hx
                      have HC := Lib.hid (fun W (hW : Below w.heap.size w W) => hc W hW)
                      have HIN := Lib.hid (show (Try.prog.info? 42).map (·.size) = some (adc x).length from infoAdS15)
                      have HTH := Lib.hid (fun W => theirs15_calls x W)
                      unfold Back15 at HTH
                      clear hx hbb hc
                      clear hki hj hj0 e1
                      have HC9 := Lib.hid (HC.out wr VA.out.bel)
                      go_wp2_with (refine step_load_at (o := ⟨some 102, _, _, _, _, _⟩) rfl rfl rfl HC9.out Try.underlying42 rfl HIN.out ?_)
                      ((with_reducible refine (HTH.out wr).mono ?_))
                      rintro e v2 ⟨rfl, hb⟩
                      have VA := Lib.hid (VA.out.below hb)
                      have VB := Lib.hid (VB.out.below hb)
                      clear hb
                      have hap := apply15c_calls q2 (told (bnew L) lst) S2 x HXO.out.1 HXO.out.2 v2 VB.out.bas
                      obtain ⟨r, hr⟩ : ∃ r, bApply (told (bnew L) lst) x = r := ⟨_, rfl⟩
                      rw [hr] at hap
                      unfold Ap15 at hap
                      have HAP := Lib.hid hap
                      have HRE := Lib.hid hr
                      clear hap hr
                      go_wp2_with fail
                      ((with_reducible refine HAP.out.mono ?_))
                      rintro e v3 ⟨rfl, hb, ht⟩
                      have VA := Lib.hid (VA.out.beside ht DAB.out VB.out.own)
                      have VB := Lib.hid (VB.out.apply hb ht)
                      clear hb ht HAP
                      have VB := Lib.hid (show Liv w v3 q2 (told (bnew L) (lst ++ [x])) S2 from by rw [told_snoc, HRE.out]; exact VB.out)
                      go_wp2_with fail
                      go_roundw
                      case rel => exact ⟨k, lst ++ [x], by have := HJ.out; omega, by first | rfl | (simp; omega), fun y hy => by rcases List.mem_append.1 hy with h | h; exact HLS.out y h; rw [List.mem_singleton.1 h]; exact List.mem_of_getElem? HX.out, fun k2 y hk2 hy => by
                        rcases Nat.lt_or_ge k k2 with h | h
                        · exact List.mem_append_left _ (HCV.out k2 y h hy)
                        · obtain rfl : k2 = k := by omega
                          have := HX.out
                          rw [hy] at this
                          injection this with this
                          subst this
                          exact List.mem_append_right _ (List.mem_singleton.2 rfl), VA.out, VB.out⟩
                      case measure => simp [intOf]
                    · obtain rfl : j = 0 := by omega
                      have hmm : ∀ v, v ∈ l ↔ v ∈ lst := fun v => ⟨fun hv => by
                        obtain ⟨k, hk, rfl⟩ := List.mem_iff_getElem.1 hv
                        exact HCV.out k _ (Nat.zero_le _) (List.getElem?_eq_getElem hk), fun hv => HLS.out v hv⟩
                      have hor := told_order (HBS.out.dis HSM.out.2.2) HUL.out hmm
                      obtain ⟨fin, hfin⟩ : ∃ fin, told (bnew L) l = fin := ⟨_, rfl⟩
                      rw [← hor, hfin] at VB
                      rw [hfin] at VA
                      obtain ⟨N, hN⟩ : ∃ N, fin.length = N := ⟨_, rfl⟩
                      have HN := Lib.hid hN
                      have jz : ¬ (0 : Int) ≤ ((0 : Nat) : Int) - 1 := by omega
                      clear hmm hor hfin hN hj0 hj
                      have hall := all15c_calls q fin S wr VA.out.bas
                      rw [show (fin).length = N from HN.out] at hall
                      unfold Cl15 at hall
                      have HALL := Lib.hid hall
                      clear hall
                      go_wp2_with fail
                      ((with_reducible refine HALL.out.mono ?_))
                      rintro e v1 ⟨A7, c7, rfl, acc, hb⟩
                      have VA := Lib.hid (VA.out.below hb)
                      have VB := Lib.hid (VB.out.below hb)
                      have hou := ours15_calls A7 N c7 (fin) v1 (rowT15 acc HN.out) (by have := VA.out.bas.ok.2; have := HN.out; omega)
                      unfold OurP15 at hou
                      rw [show (fin).length = N from HN.out] at hou
                      have HOU := Lib.hid hou
                      clear acc hb hou HALL
                      go_wp2_with fail
                      ((with_reducible refine HOU.out.mono ?_))
                      rintro e v2 ⟨A8, c8, rfl, acc, hb⟩
                      have VA := Lib.hid (VA.out.below hb)
                      have VB := Lib.hid (VB.out.below hb)
                      have AOA8 := Lib.hid acc
                      clear acc hb HOU
                      have hall := all15c_calls q2 fin S2 v2 VB.out.bas
                      rw [show (fin).length = N from HN.out] at hall
                      unfold Cl15 at hall
                      have HALL := Lib.hid hall
                      clear hall
                      go_wp2_with fail
                      ((with_reducible refine HALL.out.mono ?_))
                      rintro e v3 ⟨A7, c7, rfl, acc, hb⟩
                      have VA := Lib.hid (VA.out.below hb)
                      have VB := Lib.hid (VB.out.below hb)
                      have AO8 := Lib.hid (show Acc15 v3 _ A8 c8 fin from AccR.bel AOA8.out hb)
                      have hou := ours15_calls A7 N c7 (fin) v3 (rowT15 acc HN.out) (by have := VB.out.bas.ok.2; have := HN.out; omega)
                      unfold OurP15 at hou
                      rw [show (fin).length = N from HN.out] at hou
                      have HOU := Lib.hid hou
                      clear acc hb hou HALL AOA8
                      go_wp2_with fail
                      ((with_reducible refine HOU.out.mono ?_))
                      rintro e v4 ⟨A9, c9, rfl, acc, hb⟩
                      have VA := Lib.hid (VA.out.below hb)
                      have AO8 := Lib.hid (show Acc15 v4 _ A8 c8 fin from AccR.bel AO8.out hb)
                      have hsa := rsame15_calls A8 A9 N N c8 c9 fin fin (fun y hy => (VA.out.bas.ok.1 y hy).1) (fun y hy => (VA.out.bas.ok.1 y hy).1) v4 (row15 AO8.out HN.out) (row15 acc HN.out) (by have := VA.out.bas.ok.2; have := HN.out; omega) (by have := VA.out.bas.ok.2; have := HN.out; omega)
                      unfold Yes15 at hsa
                      rw [decide_eq_true rfl] at hsa
                      have HSA := Lib.hid hsa
                      clear acc hb hsa HOU AO8 VB
                      go_wp2_with fail
                      ((with_reducible refine HSA.out.mono ?_))
                      rintro e v5 ⟨rfl, hb⟩
                      have VA := Lib.hid (VA.out.below hb)
                      clear hb HSA
                      go_wp2_with fail
                      go_ret
                      exact ⟨rfl, VA.out.bel⟩
                · have j1' : (j : Int) < (n2 : Int) := by omega
                  have j2' : ¬ (j : Int) < 100 := by omega
                  clear hgo h1' h2'
                  generalize wr = wp at *
                  go_wp2_with fail
                  go_loopw [12] (fun t W => ∃ (j : Nat) (lst : List Ad), j ≤ i ∧ t = .int .i64 ((j : Int) - 1) ∧ (∀ y ∈ lst, y ∈ l) ∧ (∀ k y, j ≤ k → l[k]? = some y → y ∈ lst) ∧ Liv w W q (told (bnew L) l) S ∧ Liv w W q2 (told (bnew L) lst) S2) (fun t W => (intOf t + 1).toNat)
                  case atStart => exact ⟨i, lst, by omega, by first | rfl | (simp; omega), HLS.out, (fun k y hk hy => by rw [List.getElem?_eq_none (by rw [HR.out.1]; exact hk)] at hy; cases hy), VA.out, VB.out⟩
                  case round =>
                    clear VA VB HLS
                    obtain ⟨j, lst, hj, rfl, hls, hcv, hva, hvb⟩ := hrel
                    have HLS := Lib.hid hls
                    have HCV := Lib.hid hcv
                    have VA := Lib.hid hva
                    have VB := Lib.hid hvb
                    clear hls hcv hva hvb
                    by_cases hj0 : 0 < j
                    · obtain ⟨k, rfl⟩ : ∃ k, j = k + 1 := ⟨j - 1, by omega⟩
                      have e1 : (((k + 1 : Nat) : Int) - 1) = (k : Int) := by omega
                      rw [e1]
                      have HJ := Lib.hid hj
                      have hki : k < i := by omega
                      have hki' : (k : Int) < (i : Int) := by omega
                      obtain ⟨bb, o, x, rfl, hx, hbb, hc⟩ := range15 HR.out hki
                      have HXO := Lib.hid (HOK.out x (List.mem_of_getElem? hx))
                      have HX := Lib.hid hx
                      have HC := Lib.hid (fun W (hW : Below w.heap.size w W) => hc W hW)
                      have HIN := Lib.hid (show (Try.prog.info? 42).map (·.size) = some (adc x).length from infoAdS15)
                      have HTH := Lib.hid (fun W => theirs15_calls x W)
                      unfold Back15 at HTH
                      clear hx hbb hc
                      clear hki hj hj0 e1
                      have HC9 := Lib.hid (HC.out wr VA.out.bel)
                      go_wp2_with (refine step_load_at (o := ⟨some 102, _, _, _, _, _⟩) rfl rfl rfl HC9.out Try.underlying42 rfl HIN.out ?_)
                      ((with_reducible refine (HTH.out wr).mono ?_))
                      rintro e v2 ⟨rfl, hb⟩
                      have VA := Lib.hid (VA.out.below hb)
                      have VB := Lib.hid (VB.out.below hb)
                      clear hb
                      have hap := apply15c_calls q2 (told (bnew L) lst) S2 x HXO.out.1 HXO.out.2 v2 VB.out.bas
                      obtain ⟨r, hr⟩ : ∃ r, bApply (told (bnew L) lst) x = r := ⟨_, rfl⟩
                      rw [hr] at hap
                      unfold Ap15 at hap
                      have HAP := Lib.hid hap
                      have HRE := Lib.hid hr
                      clear hap hr
                      go_wp2_with fail
                      ((with_reducible refine HAP.out.mono ?_))
                      rintro e v3 ⟨rfl, hb, ht⟩
                      have VA := Lib.hid (VA.out.beside ht DAB.out VB.out.own)
                      have VB := Lib.hid (VB.out.apply hb ht)
                      clear hb ht HAP
                      have VB := Lib.hid (show Liv w v3 q2 (told (bnew L) (lst ++ [x])) S2 from by rw [told_snoc, HRE.out]; exact VB.out)
                      go_wp2_with fail
                      go_roundw
                      case rel => exact ⟨k, lst ++ [x], by have := HJ.out; omega, by first | rfl | (simp; omega), fun y hy => by rcases List.mem_append.1 hy with h | h; exact HLS.out y h; rw [List.mem_singleton.1 h]; exact List.mem_of_getElem? HX.out, fun k2 y hk2 hy => by
                        rcases Nat.lt_or_ge k k2 with h | h
                        · exact List.mem_append_left _ (HCV.out k2 y h hy)
                        · obtain rfl : k2 = k := by omega
                          have := HX.out
                          rw [hy] at this
                          injection this with this
                          subst this
                          exact List.mem_append_right _ (List.mem_singleton.2 rfl), VA.out, VB.out⟩
                      case measure => simp [intOf]
                    · obtain rfl : j = 0 := by omega
                      have hmm : ∀ v, v ∈ l ↔ v ∈ lst := fun v => ⟨fun hv => by
                        obtain ⟨k, hk, rfl⟩ := List.mem_iff_getElem.1 hv
                        exact HCV.out k _ (Nat.zero_le _) (List.getElem?_eq_getElem hk), fun hv => HLS.out v hv⟩
                      have hor := told_order (HBS.out.dis HSM.out.2.2) HUL.out hmm
                      obtain ⟨fin, hfin⟩ : ∃ fin, told (bnew L) l = fin := ⟨_, rfl⟩
                      rw [← hor, hfin] at VB
                      rw [hfin] at VA
                      obtain ⟨N, hN⟩ : ∃ N, fin.length = N := ⟨_, rfl⟩
                      have HN := Lib.hid hN
                      have jz : ¬ (0 : Int) ≤ ((0 : Nat) : Int) - 1 := by omega
                      clear hmm hor hfin hN hj0 hj
                      have hall := all15c_calls q fin S wr VA.out.bas
                      rw [show (fin).length = N from HN.out] at hall
                      unfold Cl15 at hall
                      have HALL := Lib.hid hall
                      clear hall
                      go_wp2_with fail
                      ((with_reducible refine HALL.out.mono ?_))
                      rintro e v1 ⟨A7, c7, rfl, acc, hb⟩
                      have VA := Lib.hid (VA.out.below hb)
                      have VB := Lib.hid (VB.out.below hb)
                      have hou := ours15_calls A7 N c7 (fin) v1 (rowT15 acc HN.out) (by have := VA.out.bas.ok.2; have := HN.out; omega)
                      unfold OurP15 at hou
                      rw [show (fin).length = N from HN.out] at hou
                      have HOU := Lib.hid hou
                      clear acc hb hou HALL
                      go_wp2_with fail
                      ((with_reducible refine HOU.out.mono ?_))
                      rintro e v2 ⟨A8, c8, rfl, acc, hb⟩
                      have VA := Lib.hid (VA.out.below hb)
                      have VB := Lib.hid (VB.out.below hb)
                      have AOA8 := Lib.hid acc
                      clear acc hb HOU
                      have hall := all15c_calls q2 fin S2 v2 VB.out.bas
                      rw [show (fin).length = N from HN.out] at hall
                      unfold Cl15 at hall
                      have HALL := Lib.hid hall
                      clear hall
                      go_wp2_with fail
                      ((with_reducible refine HALL.out.mono ?_))
                      rintro e v3 ⟨A7, c7, rfl, acc, hb⟩
                      have VA := Lib.hid (VA.out.below hb)
                      have VB := Lib.hid (VB.out.below hb)
                      have AO8 := Lib.hid (show Acc15 v3 _ A8 c8 fin from AccR.bel AOA8.out hb)
                      have hou := ours15_calls A7 N c7 (fin) v3 (rowT15 acc HN.out) (by have := VB.out.bas.ok.2; have := HN.out; omega)
                      unfold OurP15 at hou
                      rw [show (fin).length = N from HN.out] at hou
                      have HOU := Lib.hid hou
                      clear acc hb hou HALL AOA8
                      go_wp2_with fail
                      ((with_reducible refine HOU.out.mono ?_))
                      rintro e v4 ⟨A9, c9, rfl, acc, hb⟩
                      have VA := Lib.hid (VA.out.below hb)
                      have AO8 := Lib.hid (show Acc15 v4 _ A8 c8 fin from AccR.bel AO8.out hb)
                      have hsa := rsame15_calls A8 A9 N N c8 c9 fin fin (fun y hy => (VA.out.bas.ok.1 y hy).1) (fun y hy => (VA.out.bas.ok.1 y hy).1) v4 (row15 AO8.out HN.out) (row15 acc HN.out) (by have := VA.out.bas.ok.2; have := HN.out; omega) (by have := VA.out.bas.ok.2; have := HN.out; omega)
                      unfold Yes15 at hsa
                      rw [decide_eq_true rfl] at hsa
                      have HSA := Lib.hid hsa
                      clear acc hb hsa HOU AO8 VB
                      go_wp2_with fail
                      ((with_reducible refine HSA.out.mono ?_))
                      rintro e v5 ⟨rfl, hb⟩
                      have VA := Lib.hid (VA.out.below hb)
                      clear hb HSA
                      go_wp2_with fail
                      go_ret
                      exact ⟨rfl, VA.out.bel⟩
              · have j1' : ¬ (j : Int) < (n2 : Int) := by omega
                clear hgo h1'
                generalize wr = wp at *
                go_wp2_with fail
                go_loopw [12] (fun t W => ∃ (j : Nat) (lst : List Ad), j ≤ i ∧ t = .int .i64 ((j : Int) - 1) ∧ (∀ y ∈ lst, y ∈ l) ∧ (∀ k y, j ≤ k → l[k]? = some y → y ∈ lst) ∧ Liv w W q (told (bnew L) l) S ∧ Liv w W q2 (told (bnew L) lst) S2) (fun t W => (intOf t + 1).toNat)
                case atStart => exact ⟨i, lst, by omega, by first | rfl | (simp; omega), HLS.out, (fun k y hk hy => by rw [List.getElem?_eq_none (by rw [HR.out.1]; exact hk)] at hy; cases hy), VA.out, VB.out⟩
                case round =>
                  clear VA VB HLS
                  obtain ⟨j, lst, hj, rfl, hls, hcv, hva, hvb⟩ := hrel
                  have HLS := Lib.hid hls
                  have HCV := Lib.hid hcv
                  have VA := Lib.hid hva
                  have VB := Lib.hid hvb
                  clear hls hcv hva hvb
                  by_cases hj0 : 0 < j
                  · obtain ⟨k, rfl⟩ : ∃ k, j = k + 1 := ⟨j - 1, by omega⟩
                    have e1 : (((k + 1 : Nat) : Int) - 1) = (k : Int) := by omega
                    rw [e1]
                    have HJ := Lib.hid hj
                    have hki : k < i := by omega
                    have hki' : (k : Int) < (i : Int) := by omega
                    obtain ⟨bb, o, x, rfl, hx, hbb, hc⟩ := range15 HR.out hki
                    have HXO := Lib.hid (HOK.out x (List.mem_of_getElem? hx))
                    have HX := Lib.hid hx
                    have HC := Lib.hid (fun W (hW : Below w.heap.size w W) => hc W hW)
                    have HIN := Lib.hid (show (Try.prog.info? 42).map (·.size) = some (adc x).length from infoAdS15)
                    have HTH := Lib.hid (fun W => theirs15_calls x W)
                    unfold Back15 at HTH
                    clear hx hbb hc
                    clear hki hj hj0 e1
                    have HC9 := Lib.hid (HC.out wr VA.out.bel)
                    go_wp2_with (refine step_load_at (o := ⟨some 102, _, _, _, _, _⟩) rfl rfl rfl HC9.out Try.underlying42 rfl HIN.out ?_)
                    ((with_reducible refine (HTH.out wr).mono ?_))
                    rintro e v2 ⟨rfl, hb⟩
                    have VA := Lib.hid (VA.out.below hb)
                    have VB := Lib.hid (VB.out.below hb)
                    clear hb
                    have hap := apply15c_calls q2 (told (bnew L) lst) S2 x HXO.out.1 HXO.out.2 v2 VB.out.bas
                    obtain ⟨r, hr⟩ : ∃ r, bApply (told (bnew L) lst) x = r := ⟨_, rfl⟩
                    rw [hr] at hap
                    unfold Ap15 at hap
                    have HAP := Lib.hid hap
                    have HRE := Lib.hid hr
                    clear hap hr
                    go_wp2_with fail
                    ((with_reducible refine HAP.out.mono ?_))
                    rintro e v3 ⟨rfl, hb, ht⟩
                    have VA := Lib.hid (VA.out.beside ht DAB.out VB.out.own)
                    have VB := Lib.hid (VB.out.apply hb ht)
                    clear hb ht HAP
                    have VB := Lib.hid (show Liv w v3 q2 (told (bnew L) (lst ++ [x])) S2 from by rw [told_snoc, HRE.out]; exact VB.out)
                    go_wp2_with fail
                    go_roundw
                    case rel => exact ⟨k, lst ++ [x], by have := HJ.out; omega, by first | rfl | (simp; omega), fun y hy => by rcases List.mem_append.1 hy with h | h; exact HLS.out y h; rw [List.mem_singleton.1 h]; exact List.mem_of_getElem? HX.out, fun k2 y hk2 hy => by
                      rcases Nat.lt_or_ge k k2 with h | h
                      · exact List.mem_append_left _ (HCV.out k2 y h hy)
                      · obtain rfl : k2 = k := by omega
                        have := HX.out
                        rw [hy] at this
                        injection this with this
                        subst this
                        exact List.mem_append_right _ (List.mem_singleton.2 rfl), VA.out, VB.out⟩
                    case measure => simp [intOf]
                  · obtain rfl : j = 0 := by omega
                    have hmm : ∀ v, v ∈ l ↔ v ∈ lst := fun v => ⟨fun hv => by
                      obtain ⟨k, hk, rfl⟩ := List.mem_iff_getElem.1 hv
                      exact HCV.out k _ (Nat.zero_le _) (List.getElem?_eq_getElem hk), fun hv => HLS.out v hv⟩
                    have hor := told_order (HBS.out.dis HSM.out.2.2) HUL.out hmm
                    obtain ⟨fin, hfin⟩ : ∃ fin, told (bnew L) l = fin := ⟨_, rfl⟩
                    rw [← hor, hfin] at VB
                    rw [hfin] at VA
                    obtain ⟨N, hN⟩ : ∃ N, fin.length = N := ⟨_, rfl⟩
                    have HN := Lib.hid hN
                    have jz : ¬ (0 : Int) ≤ ((0 : Nat) : Int) - 1 := by omega
                    clear hmm hor hfin hN hj0 hj
                    have hall := all15c_calls q fin S wr VA.out.bas
                    rw [show (fin).length = N from HN.out] at hall
                    unfold Cl15 at hall
                    have HALL := Lib.hid hall
                    clear hall
                    go_wp2_with fail
                    ((with_reducible refine HALL.out.mono ?_))
                    rintro e v1 ⟨A7, c7, rfl, acc, hb⟩
                    have VA := Lib.hid (VA.out.below hb)
                    have VB := Lib.hid (VB.out.below hb)
                    have hou := ours15_calls A7 N c7 (fin) v1 (rowT15 acc HN.out) (by have := VA.out.bas.ok.2; have := HN.out; omega)
                    unfold OurP15 at hou
                    rw [show (fin).length = N from HN.out] at hou
                    have HOU := Lib.hid hou
                    clear acc hb hou HALL
                    go_wp2_with fail
                    ((with_reducible refine HOU.out.mono ?_))
                    rintro e v2 ⟨A8, c8, rfl, acc, hb⟩
                    have VA := Lib.hid (VA.out.below hb)
                    have VB := Lib.hid (VB.out.below hb)
                    have AOA8 := Lib.hid acc
                    clear acc hb HOU
                    have hall := all15c_calls q2 fin S2 v2 VB.out.bas
                    rw [show (fin).length = N from HN.out] at hall
                    unfold Cl15 at hall
                    have HALL := Lib.hid hall
                    clear hall
                    go_wp2_with fail
                    ((with_reducible refine HALL.out.mono ?_))
                    rintro e v3 ⟨A7, c7, rfl, acc, hb⟩
                    have VA := Lib.hid (VA.out.below hb)
                    have VB := Lib.hid (VB.out.below hb)
                    have AO8 := Lib.hid (show Acc15 v3 _ A8 c8 fin from AccR.bel AOA8.out hb)
                    have hou := ours15_calls A7 N c7 (fin) v3 (rowT15 acc HN.out) (by have := VB.out.bas.ok.2; have := HN.out; omega)
                    unfold OurP15 at hou
                    rw [show (fin).length = N from HN.out] at hou
                    have HOU := Lib.hid hou
                    clear acc hb hou HALL AOA8
                    go_wp2_with fail
                    ((with_reducible refine HOU.out.mono ?_))
                    rintro e v4 ⟨A9, c9, rfl, acc, hb⟩
                    have VA := Lib.hid (VA.out.below hb)
                    have AO8 := Lib.hid (show Acc15 v4 _ A8 c8 fin from AccR.bel AO8.out hb)
                    have hsa := rsame15_calls A8 A9 N N c8 c9 fin fin (fun y hy => (VA.out.bas.ok.1 y hy).1) (fun y hy => (VA.out.bas.ok.1 y hy).1) v4 (row15 AO8.out HN.out) (row15 acc HN.out) (by have := VA.out.bas.ok.2; have := HN.out; omega) (by have := VA.out.bas.ok.2; have := HN.out; omega)
                    unfold Yes15 at hsa
                    rw [decide_eq_true rfl] at hsa
                    have HSA := Lib.hid hsa
                    clear acc hb hsa HOU AO8 VB
                    go_wp2_with fail
                    ((with_reducible refine HSA.out.mono ?_))
                    rintro e v5 ⟨rfl, hb⟩
                    have VA := Lib.hid (VA.out.below hb)
                    clear hb HSA
                    go_wp2_with fail
                    go_ret
                    exact ⟨rfl, VA.out.bel⟩
end Go.Proofs.Ytmfmjdkeoiebpaa
