/-
  Contract of message.read. Condition: the objects that come in, and their bodies, read as lists.
-/
import Derived.Test.YthmgpffpiggomaaMsgK
namespace Go.Proofs.Ythmgpffpiggomaa
open Go.RowKit

theorem un_snoc {qs : List Ob} {j : Nat} {q : Ob} {xs : List PIt} {x : PIt} (h : ((qs.take j).map fun o => unpack o.val) = xs.map some) (hq : qs[j]? = some q) (ho : unpack q.val = some x) : ((qs.take (j + 1)).map fun o => unpack o.val) = (xs ++ [x]).map some := by
  rw [take_next qs j q hq, List.map_append, h, List.map_append, List.map_cons, List.map_nil, ho]; rfl

set_option maxRecDepth 100000 in
set_option maxHeartbeats 6400000 in
theorem read_calls8 (ty tl : Int) (la : Option Addr) (n lc : Nat) (qs : List Ob) (w : World) (h : Objs w w.heap.size la n qs) (hqn : ∀ q ∈ qs, q.n ≤ 140737488355328) :
    Calls Try.prog 21 #[.int .i64 ty, .int .i64 tl, .slice la n lc] w (ReadPost w (mRead ty tl (vals qs))) := by
  have HR0 := Lib.hid (Blk.new w 37 (Ms.bare 0 0).cells)
  have HL0 := Lib.hid (bel_new (Below.refl _ w) (.cells (Ms.bare 0 0).cells.toArray 37))
  have HQ := Lib.hid h
  have HQL := Lib.hid h.len
  clear h
  go_enter Try.func21, Try.ntmps21
  go_wp2_with fail
  ((with_reducible refine (contents_calls ty _).mono ?_))
  rintro e w2 ⟨pa, pc, ps, rfl, hps, hac, hok, hb2⟩
  have HR2 := Lib.hid (HR0.out.below hb2)
  have HL2 := Lib.hid (bel_more HL0.out (Nat.le_refl _) hb2)
  obtain ⟨k, hk⟩ : ∃ k, k = ps.length := ⟨_, rfl⟩
  have HP := Lib.hid hps
  have hk9 : k ≤ 9 := by
    have := prts_le ty
    rw [← hps, List.length_map] at this
    omega
  rw [← hk]
  have HK := Lib.hid hk
  have HAC := Lib.hid (hac.lower HL0.out.size)
  have HOK := Lib.hid hok
  clear hps hac hok hb2 HR0 HL0 hk
  by_cases hnk : n = k
  · subst hnk
    have hZ := Blk.new w2 37 (Ms.bare 0 0).cells
    have hlt2 := HR2.out.lt
    go_upto_region 5 with (refine step_store (o := ⟨none, _, _, _, _, _⟩) (vs := (Ms.bare ty tl).cells) rfl rfl rfl rfl hZ rfl rfl (ms_one _) ?_; intro w3 hb3 hg3 hs3)
    have hl3 : Below w2.heap.size w2 w3 := bel_upd (bel_new (Below.refl w2.heap.size w2) _) hg3 (Nat.le_refl _) (Nat.le_refl _)
    obtain ⟨q, hq⟩ : ∃ q, q = w2.heap.size := ⟨_, rfl⟩
    rw [← hq]
    rw [← hq] at hb3
    have HE := Lib.hid (show EnvR w ty tl ps pa pc q 0 [] w3 from ⟨HR2.out.below hl3, ⟨Ms.bare ty tl, hb3, rfl, LstM.bare _ _ _ _⟩, AccR.bel HAC.out hl3, fun q hq => (HOK.out q hq).bel hl3, bel_more HL2.out (Nat.le_refl _) hl3, by rw [hq]; exact hlt2⟩)
    clear hq hb3 hg3 hs3 hl3 hZ hlt2 HR2 HL2 HAC HOK
    go_wp2
    go_loopw [27] (fun i W => ∃ (j : Nat) (xs : List PIt), j ≤ n ∧ i = .int .i64 (j : Int) ∧ Hid (xs.length = j) ∧ Hid (((qs.take j).map fun o => unpack o.val) = xs.map some) ∧ EnvR w ty tl ps pa pc q j xs W) (fun i _ => n - (intOf i).toNat)
    case atStart => exact ⟨0, [], Nat.zero_le _, rfl, (rfl : ([] : List PIt).length = 0), (rfl : (([] : List Ob).map fun o => unpack o.val) = ([] : List PIt).map some), HE.out⟩
    case round =>
      obtain ⟨j, xs, hj, rfl, HXL, HXS, hE⟩ := hrel
      clear HE
      have HE := Lib.hid hE
      clear hE
      by_cases hlt : j < n
      · obtain ⟨b, o, pq, rfl, hq, c0, c1⟩ := row_part (AccR.row HE.out.pts) (by rw [← HK.out]; exact hlt)
        obtain ⟨b2, o2, oq, rfl, hbl, hom, hoq, hat, hbt, hmx⟩ := (HQ.out.below HE.out.bel).at hlt
        have hmem := List.mem_of_getElem? hq
        have HJ := Lib.hid hq
        have HJ2 := Lib.hid hoq
        have hbl2 : b2 < wr.heap.size := Nat.lt_of_lt_of_le hbl HE.out.bel.size
        obtain ⟨d0, d1, d2⟩ := hat
        obtain ⟨p, wf, wc, rf⟩ := pq
        simp only at c0 c1
        have bn := bel_new (Below.refl wr.heap.size wr) (.cells #[.func (.func wf) #[] wc, .func (.func rf) #[] #[]] 63)
        have HE1 := Lib.hid (HE.out.below bn)
        have HPB := Lib.hid (Blk.new wr 63 [.func (.func wf) #[] wc, .func (.func rf) #[] #[]])
        have HBT := Lib.hid (((hbt.below (bn.mono HE.out.bel.size)).more HE1.out.bel.size))
        have hon : oq.n ≤ 140737488355328 := hqn _ hom
        have HOM := Lib.hid (show oq.val ∈ vals qs from List.mem_map_of_mem hom)
        clear bn hq hoq hbt hbl hom
        obtain ⟨ocl, oty, oa, on, oc, ol⟩ := oq
        simp only at d0 d1 d2 hon HBT
        clear hmx
        go_wp2_with fail
        ((with_reducible refine (unpack_calls ocl oty oa on oc ol _ HBT.out hon).mono ?_))
        intro e w4 hu
        clear c0 c1 d0 d1 d2 HE hbl2
        have hZ := Blk.new w4 65 (It.cells ⟨0, 0, 0, 0, 0, none, 0, 0, [], Wnt.zero⟩)
        cases hup : unpack (ocl, oty, ol) with
        | none =>
          obtain ⟨rfl, hb4⟩ := hu.no hup
          have HNO := Lib.hid (mRead_bad (ty := ty) (tl := tl) HOM.out hup)
          have HE4 := Lib.hid (HE1.out.below hb4)
          clear hu hup hb4 HE1 HPB
          go_wp2_with (first
            | (refine step_store (o := ⟨none, _, _, _, _, _⟩) (vs := It.cells ⟨0, 0, 0, 0, 0, none, 0, 0, [], Wnt.zero⟩) rfl rfl rfl rfl hZ rfl rfl (it_one _) ?_
               intro w5 hb5 hg5 hs5
               have HE5 := Lib.hid (HE4.out.below (bel_upd (bel_new (Below.refl w4.heap.size w4) _) hg5 (Nat.le_refl _) (Nat.le_refl _)))
               clear hb5 hg5 hs5 hZ)
            | (refine step_store (o := ⟨none, _, _, _, _, _⟩) (vs := (Ms.bare 0 0).cells) rfl rfl rfl rfl HE5.out.res rfl rfl (ms_one _) ?_
               intro w6 hb6 hg6 hs6))
          refine bodyPost_ret (v := .tuple #[.agg (Ms.bare 0 0).cells.toArray, .int .i64 5]) (results_two8 rfl _ rfl hb6 Try.underlying37 rfl rfl rfl) rfl ?_
          exact ⟨bel_upd HE5.out.bel hg6 (Nat.le_refl _) (Nat.le_refl _), .inl ⟨HNO.out, rfl⟩⟩
        | some x =>
          obtain ⟨y, hyv, hyn, rfl, hya, hb4⟩ := hu.yes hup
          have HYF := Lib.hid (fine_back8 (by rw [hyv]; exact back_two hup) hyn hya)
          have HYA := Lib.hid (hya.lower HE1.out.bel.size)
          have HYN := Lib.hid hyn
          have HYV := Lib.hid hyv
          have HE4 := Lib.hid (HE1.out.below hb4)
          have HPB4 := Lib.hid (HPB.out.below hb4)
          have HXS2 := Lib.hid (un_snoc HXS.out HJ2.out hup)
          have HXL2 := Lib.hid (show (xs ++ [x]).length = j + 1 by rw [List.length_append, HXL.out]; rfl)
          clear hu hup hb4 HE1 HPB hyv hyn hya
          go_upto_region 9 with (refine step_store (o := ⟨none, _, _, _, _, _⟩) (vs := y.cells) rfl rfl rfl rfl hZ rfl rfl (it_one _) ?_; intro w5 hb5 hg5 hs5)
          have hl5 : Below w4.heap.size w4 w5 := bel_upd (bel_new (Below.refl w4.heap.size w4) _) hg5 (Nat.le_refl _) (Nat.le_refl _)
          have HX5 := Lib.hid hb5
          have HE5 := Lib.hid (HE4.out.below hl5)
          have hpb5 := HPB4.out.below hl5
          have hyf5 := HYF.out.up hl5
          have HYA5 := Lib.hid (AccR.bel HYA.out hl5)
          have p1 : w5.cell? ⟨wr.heap.size, 1, none⟩ = some (.func (.func rf) #[] #[]) := hpb5.cell 1
          obtain ⟨m, hm1, hm2, hm3⟩ := HE5.out.msg
          obtain ⟨he, hrc⟩ := part_reads (HE5.out.oks _ hmem) m y q hm1 (hm3.mem hm1) ⟨hyf5, by rw [HYN.out]; exact off_acc HYA5.out hm1 (by decide)⟩
          simp only at he hrc
          have HM1 := Lib.hid hm1
          have HM2 := Lib.hid hm2
          have HM3 := Lib.hid hm3
          clear hb5 hg5 hs5 hl5 hpb5 hyf5 HE4 HPB4 HYF HYA hmem hm1 hm2 hm3
          go_wp2_with (refine step_load (o := ⟨some 46, _, _, _, _, _⟩) rfl rfl rfl HX5.out Try.underlying65 rfl rfl ?_)
          ((with_reducible refine hrc.mono ?_))
          rintro e w9 ⟨rfl, m2, hv, hb9, hm9, hg9, hQ9⟩
          have hE9 := HE5.out.turn HJ.out HXL.out (by rw [← HK.out]; exact hj) HM1.out HM2.out HM3.out HYA5.out HYN.out hv hb9 hm9 hg9 hQ9
          rw [HYV.out] at hE9
          have HE9 := Lib.hid hE9
          clear he hrc hv hb9 hm9 hg9 hQ9 HM1 HM2 HM3 hE9 HE5 HX5 HYA5 p1
          go_wp2
          exact ⟨⟨j + 1, xs ++ [x], by omega, by go_num, HXL2, HXS2, HE9.out⟩, by simp [intOf]; omega⟩
      · have hjn : j = n := by omega
        subst hjn
        obtain ⟨m, hm1, hm2, hm3⟩ := HE.out.msg
        have e1 : ps.take j = ps := List.take_of_length_le (by rw [HK.out]; exact Nat.le_refl _)
        have e2 : qs.take j = qs := List.take_of_length_le (by rw [HQL.out]; exact Nat.le_refl _)
        have hxs := HXS.out
        rw [e2] at hxs
        have HYES := Lib.hid (show mRead ty tl (vals qs) = some m.val by
          rw [mRead_good (xs := xs) (by rw [vals_length, HQL.out, ← HP.out, List.length_map, ← HK.out]) (by unfold vals; rw [List.map_map]; exact hxs), hm2, e1, HP.out])
        have HM1 := Lib.hid hm1
        have HM3 := Lib.hid hm3
        clear e1 e2 hxs hm1 hm2 hm3
        go_wp2_with (first
          | refine step_load (o := ⟨some 49, _, _, _, _, _⟩) rfl rfl rfl HM1.out Try.underlying37 rfl rfl ?_
          | (refine step_store (o := ⟨none, _, _, _, _, _⟩) (vs := m.cells) rfl rfl rfl rfl HE.out.res rfl rfl (ms_one _) ?_
             intro w6 hb6 hg6 hs6))
        refine bodyPost_ret (v := .tuple #[.agg m.cells.toArray, .int .i64 0]) (results_two8 rfl _ rfl hb6 Try.underlying37 rfl rfl rfl) rfl ?_
        exact ⟨bel_upd HE.out.bel hg6 (Nat.le_refl _) (Nat.le_refl _), .inr ⟨m, HYES.out, rfl, HM3.out.off HE.out.res.typ (by decide) hg6⟩⟩
  · have hnk2 : ((n : Int) != (k : Int)) = true := by rw [bne_iff_ne]; omega
    have HNO := Lib.hid (mRead_len (ty := ty) (tl := tl) (os := vals qs) (by rw [vals_length, HQL.out, ← HP.out, List.length_map, ← HK.out]; exact hnk))
    go_wp2_with (refine step_store (o := ⟨none, _, _, _, _, _⟩) (vs := (Ms.bare 0 0).cells) rfl rfl rfl rfl HR2.out rfl rfl (ms_one _) ?_; intro w6 hb6 hg6 hs6)
    refine bodyPost_ret (v := .tuple #[.agg (Ms.bare 0 0).cells.toArray, .int .i64 5]) (results_two8 rfl _ rfl hb6 Try.underlying37 rfl rfl rfl) rfl ?_
    exact ⟨bel_upd HL2.out hg6 (Nat.le_refl _) (Nat.le_refl _), .inl ⟨HNO.out, rfl⟩⟩
end Go.Proofs.Ythmgpffpiggomaa
