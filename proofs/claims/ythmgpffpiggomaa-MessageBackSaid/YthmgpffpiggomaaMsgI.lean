/-
  Contract of message.objects, of a message whose time may be. Condition: the message's lists read as numbers.
-/
import Derived.Test.YthmgpffpiggomaaMsgG
import Derived.Test.YthmgpffpiggomaaMsgF
import Derived.Test.YthmgpffpiggomaaBodyO
namespace Go.Proofs.Ythmgpffpiggomaa
open Go.RowKit

theorem Fine.back {w W : World} {B : Nat} {x : It} (h : Fine W B x) (hb : Below B w W) : Fine w B x := ⟨h.row.keep (fun b hl => (hb.block b hl).symm), h.len, h.u, h.any, h.all, h.non⟩
theorem pk_snoc {M : PMs} {ps : List PtV} {j : Nat} {q : PtV} {os : List (Int × Int × List UInt8)} {o : Int × Int × List UInt8} (h : ((ps.take j).map fun q => pack (q.p.wr M)) = os.map some) (hq : ps[j]? = some q) (ho : pack (q.p.wr M) = some o) : ((ps.take (j + 1)).map fun q => pack (q.p.wr M)) = (os ++ [o]).map some := by
  rw [take_next ps j q hq, List.map_append, h, List.map_append, List.map_cons, List.map_nil, ho]; rfl

theorem mObjs_told {m : PMs} {os : List (Int × Int × List UInt8)} (ht : 0 ≤ m.tl ∧ m.tl ≤ 255) (h : ((prts m.ty).map fun p => pack (p.wr m)) = os.map some) : mObjs m = if os.length = 0 ∨ m.same (agn (prts m.ty) m) = false then none else some os := by
  unfold mObjs
  rw [if_neg (by omega), (sums_some _ _).2 h]

set_option maxRecDepth 100000 in
set_option maxHeartbeats 6400000 in
theorem objects_go (M : Ms) (w : World) (h : FineM w w.heap.size M) (t1 : ¬ M.tl < 0) (t2 : ¬ 255 < M.tl) : Calls Try.prog 15 #[.agg M.cells.toArray] w (ObjsPost w M.val) := by
  have h0 := Blk.new w 37 M.cells
  have HB0 := Lib.hid h0
  have HL0 := Lib.hid (bel_new (Below.refl _ w) (.cells M.cells.toArray 37))
  have hlt : w.heap.size < (w.alloc (.cells M.cells.toArray 37)).heap.size := h0.lt
  have hsz : (w.alloc (.cells M.cells.toArray 37)).heap.size = w.heap.size + 1 := World.size_alloc _ _
  have HSZ := Lib.hid hsz
  have HW := Lib.hid h
  clear h h0 hlt hsz
  go_enter Try.func15, Try.ntmps15
  go_upto_region 1 with fail
  revert HB0 HL0 HSZ
  generalize World.alloc w _ = w1
  intro HB0 HL0 HSZ
  have x0 : w1.cell? ⟨w.heap.size, 0, none⟩ = some (.int .i64 M.ty) := HB0.out.cell 0
  have x1 : w1.cell? ⟨w.heap.size, 1, none⟩ = some (.int .i64 M.tl) := HB0.out.cell 1
  have HZ := Lib.hid (Blk.new w1 37 (Ms.bare 0 0).cells)
  have HB1 := Lib.hid (HB0.out.alloc (.cells (Ms.bare 0 0).cells.toArray 37))
  have HL1 := Lib.hid (bel_alloc HL0.out (Nat.le_refl _) (.cells (Ms.bare 0 0).cells.toArray 37))
  have hlt : w.heap.size < w1.heap.size := HB0.out.lt
  go_upto_region 5 with (refine step_store (o := ⟨none, _, _, _, _, _⟩) (vs := (Ms.bare M.ty M.tl).cells) rfl rfl rfl rfl HZ.out rfl rfl (ms_one _) ?_; intro w2 hb2 hg2 hs2)
  have hw1 := HSZ.out
  have HB2 := Lib.hid (HB1.out.same (hg2.block _ (by simp; omega) (fun e => by injection e with e; omega)))
  have HL2 := Lib.hid (bel_upd HL1.out hg2 (Nat.le_refl _) (by omega))
  have HA2 := Lib.hid (show Blk w2 (w.heap.size + 1) 37 (Ms.bare M.ty M.tl).cells by rw [← hw1]; exact hb2)
  have x2 : w2.cell? ⟨w.heap.size, 0, none⟩ = some (.int .i64 M.ty) := HB2.out.cell 0
  clear x0 x1 HZ HB1 HL1 hb2 hg2 hs2 HB0 HL0 hlt
  rw [hw1]
  clear hw1 HSZ
  go_wp2_with fail
  ((with_reducible refine (contents_calls M.ty _).mono ?_))
  rintro e w3 ⟨pa, pc, ps, rfl, hps, hac, hok, hb3⟩
  have HE := Lib.hid (show EnvO w M ps pa pc 0 none 0 [] w3 from ⟨HB2.out.below hb3, ⟨Ms.bare M.ty M.tl, HA2.out.below hb3, rfl, FineM.bare _ _ _ _⟩, hac.lower HL2.out.size, hok, AccR.nil _ _ _, by simp, bel_more HL2.out (Nat.le_refl _) hb3⟩)
  obtain ⟨n, hn⟩ : ∃ n, n = ps.length := ⟨_, rfl⟩
  have HP := Lib.hid hps
  have hn9 : n ≤ 9 := by
    have := prts_le M.ty
    rw [← hps, List.length_map] at this
    omega
  rw [← hn]
  have HN := Lib.hid hn
  clear hps hac hok hb3 HB2 HA2 HL2 x2 hn
  go_wp2
  go_loopw [4, 28] (fun s i W => ∃ (j : Nat) (A : Option Addr) (c : Nat) (qs : List Ob), j ≤ n ∧ i = .int .i64 (j : Int) ∧ s = .slice A j c ∧ Hid (qs.length = j) ∧ Hid (((ps.take j).map fun q => pack (q.p.wr M.val)) = (vals qs).map some) ∧ EnvO w M ps pa pc j A c qs W) (fun _ i _ => n - (intOf i).toNat)
  case atStart => exact ⟨0, none, 0, [], Nat.zero_le _, rfl, rfl, (rfl : ([] : List Ob).length = 0), (rfl : (([] : List PtV).map fun q => pack (q.p.wr M.val)) = (vals []).map some), HE.out⟩
  case round =>
    obtain ⟨j, A, c, qs, hj, rfl, rfl, HQ, HPK, hE⟩ := hrel
    clear HE
    have HE := Lib.hid hE
    clear hE
    by_cases hlt : j < n
    · obtain ⟨b, o, q, rfl, hq, c0, c1⟩ := row_part (AccR.row HE.out.pts) (by rw [← HN.out]; exact hlt)
      have hmem := List.mem_of_getElem? hq
      have HJ := Lib.hid hq
      obtain ⟨p, wf, wc, rf⟩ := q
      simp only at c0 c1
      have bn := bel_new (Below.refl wr.heap.size wr) (.cells #[.func (.func wf) #[] wc, .func (.func rf) #[] #[]] 63)
      have HE1 := Lib.hid (HE.out.below bn)
      have HPB := Lib.hid (Blk.new wr 63 [.func (.func wf) #[] wc, .func (.func rf) #[] #[]])
      obtain ⟨he, hwc⟩ := part_writes (HE1.out.oks _ hmem) M w.heap.size HE1.out.bel.size (HW.out.below HE1.out.bel)
      simp only at he hwc
      clear bn hmem hq
      go_wp2_with (refine step_load (o := ⟨some 34, _, _, _, _, _⟩) rfl rfl rfl HE1.out.box Try.underlying37 rfl rfl ?_)
      ((with_reducible refine hwc.mono ?_))
      rintro e w4 ⟨x, rfl, hxv, hxf, hb4⟩
      have HE4 := Lib.hid (HE1.out.below hb4)
      have HPB4 := Lib.hid (HPB.out.below hb4)
      have HXV := Lib.hid hxv
      have HXF := Lib.hid hxf
      have HXW := Lib.hid (hxf.back HE4.out.bel)
      have hZ := Blk.new w4 65 (It.cells ⟨0, 0, 0, 0, 0, none, 0, 0, [], Wnt.zero⟩)
      clear he hwc hxv hxf hb4 c0 c1 HE1 HPB HE
      go_wp2_with (first
        | (refine step_store (o := ⟨none, _, _, _, _, _⟩) (vs := x.cells) rfl rfl rfl rfl hZ rfl rfl (it_one _) ?_
           intro w5 hb5 hg5 hs5
           have hl5 : Below w4.heap.size w4 w5 := bel_upd (bel_new (Below.refl w4.heap.size w4) _) hg5 (Nat.le_refl _) (Nat.le_refl _)
           have HX5 := Lib.hid hb5
           have HE5 := Lib.hid (HE4.out.below hl5)
           have HPB5 := Lib.hid (HPB4.out.below hl5)
           clear hb5 hg5 hs5 hl5 hZ)
        | refine step_load (o := ⟨some 37, _, _, _, _, _⟩) rfl rfl rfl HX5.out Try.underlying65 rfl rfl ?_)
      have hF : Fine w5 w5.heap.size x := ((HXF.out.back HE4.out.bel).below HE5.out.bel).more HE5.out.bel.size
      ((with_reducible refine (pack_calls x w5 hF).mono ?_))
      intro e w6 hp
      clear hF HE4 HPB4
      rw [HXV.out] at hp
      cases hpk : pack (p.wr M.val) with
      | none =>
        obtain ⟨rfl, hb6⟩ := hp.no hpk
        have HNO := Lib.hid (mObjs_part (m := M.val) (p := p) (by show p ∈ prts M.ty; rw [← HP.out]; exact List.mem_map.2 ⟨_, List.mem_of_getElem? HJ.out, rfl⟩) hpk)
        have HL6 := Lib.hid (bel_more HE5.out.bel (Nat.le_refl _) hb6)
        clear hp hpk hb6 HX5 HE5 HPB5
        go_wp2
        go_ret2
        exact ⟨bel_new HL6.out _, .inl ⟨HNO.out, rfl⟩⟩
      | some ob =>
        obtain ⟨oa, oc, rfl, ho6, hb6⟩ := hp.yes hpk
        have HX6 := HX5.out.below hb6
        have HE6 := HE5.out.below hb6
        have HPB6 := HPB5.out.below hb6
        have ho7 := (ho6.lower HE5.out.bel.size).alloc (.cells (eo ⟨ob.1, ob.2.1, oa, ob.2.2.length, oc, ob.2.2⟩).toArray 67)
        have bn := bel_new (Below.refl w6.heap.size w6) (.cells (eo ⟨ob.1, ob.2.1, oa, ob.2.2.length, oc, ob.2.2⟩).toArray 67)
        have HE7 := HE6.below bn
        have HX7 := HX6.below bn
        have HPB7 := HPB6.below bn
        obtain ⟨A8, c8, w8, r8, a8, g8⟩ := acco_push HE7.acc ⟨ob.1, ob.2.1, oa, ob.2.2.length, oc, ob.2.2⟩ HE7.bel.size (by rw [HQ.out]; omega) 46
        have HE8 := Lib.hid (HE7.push a8 ho7 rfl g8)
        have HX8 := Lib.hid (blk_off2 HX7 HE7.acc (by decide) g8)
        have HPB8 := Lib.hid (blk_off2 HPB7 HE7.acc (by decide) g8)
        rw [HQ.out, World.size_alloc] at r8
        have R8 := Lib.hid (show (Builtin.append_ #[46, 46] 46 #[.slice A j c, .slice (some ⟨w6.heap.size + 1, 0, none⟩) 1 1]).run Try.prog ((w6.alloc (.cells #[.int .i64 ob.1, .int .i64 ob.2.1, .slice oa ob.2.2.length oc] 67)).alloc (.cells #[.int .i64 ob.1, .int .i64 ob.2.1, .slice oa ob.2.2.length oc] 67)) = .ok (.slice A8 (j + 1) c8) w8 from r8)
        have HPK2 := Lib.hid (pk_snoc HPK.out HJ.out hpk)
        have HQ2 := Lib.hid (show (qs ++ [(⟨ob.1, ob.2.1, oa, ob.2.2.length, oc, ob.2.2⟩ : Ob)]).length = j + 1 by rw [List.length_append, HQ.out]; rfl)
        clear hp hpk HX5 HE5 HPB5 ho6 hb6 HX6 HE6 HPB6 ho7 bn HE7 HX7 HPB7 r8 a8 g8 HPK HQ
        have p1 : w8.cell? ⟨wr.heap.size, 1, none⟩ = some (.func (.func rf) #[] #[]) := HPB8.out.cell 1
        obtain ⟨m, hm1, hm2, hm3⟩ := HE8.out.rdn
        have hmem := List.mem_of_getElem? HJ.out
        have hxf := HXW.out
        obtain ⟨he, hrc⟩ := part_reads (HE8.out.oks _ hmem) m x (w.heap.size + 1) hm1 (EnvO.mem HE8.out.bel hm3) ⟨(hxf.below HE8.out.bel).more HE8.out.bel.size, off_below hxf.row (by omega)⟩
        simp only at he hrc
        go_wp2_with (first
          | (at_builtin; refine step_append (o := ⟨some 46, _, _, _, _, _⟩) rfl rfl rfl rfl R8.out ?_)
          | refine step_load (o := ⟨some 49, _, _, _, _, _⟩) rfl rfl rfl HX8.out Try.underlying65 rfl rfl ?_)
        ((with_reducible refine hrc.mono ?_))
        rintro e w9 ⟨rfl, m2, hv, hb9, hm9, hg9, hQ9⟩
        have HE9 := Lib.hid (HE8.out.turn HJ.out hm1 hm2 hm3 hxf HXV.out hv hb9 hm9 hg9 hQ9)
        clear he hrc hv hb9 hm9 hg9 hQ9 hm1 hm2 hm3 hmem hxf p1 HX8 HPB8 HE8 R8
        go_wp2
        refine ⟨⟨j + 1, A8, c8, _, by omega, by go_num, rfl, HQ2, ?_, HE9.out⟩, by simp [intOf]; omega⟩
        exact (by rw [vals_append]; exact HPK2.out : ((ps.take (j + 1)).map fun q => pack (q.p.wr M.val)) = (vals (qs ++ [(⟨ob.1, ob.2.1, oa, ob.2.2.length, oc, ob.2.2⟩ : Ob)])).map some)
    · have hjn : j = n := by omega
      subst hjn
      obtain ⟨m, hm1, hm2, hm3⟩ := HE.out.rdn
      have htk : ps.take j = ps := List.take_of_length_le (by rw [HN.out]; exact Nat.le_refl _)
      have hpk := HPK.out
      rw [htk] at hpk hm2
      have hpk2 : ((prts M.val.ty).map fun p => pack (p.wr M.val)) = (vals qs).map some := by
        have e : prts M.val.ty = ps.map PtV.p := HP.out.symm
        rw [e, List.map_map]; exact hpk
      have hm4 : m.val = agn (prts M.val.ty) M.val := by rw [hm2, HP.out]; rfl
      have HT := Lib.hid (mObjs_told (m := M.val) ⟨t1, t2⟩ hpk2)
      have HM4 := Lib.hid hm4
      have HM1 := Lib.hid hm1
      have HM3 := Lib.hid hm3
      have HLN := Lib.hid (show (vals qs).length = j by rw [vals_length, HQ.out])
      clear htk hpk hpk2 hm4 hm1 hm2 hm3
      by_cases h0 : j = 0
      · have HNO := Lib.hid (show mObjs M.val = none by rw [HT.out, if_pos (.inl (by rw [HLN.out]; exact h0))])
        subst h0
        go_wp2
        go_ret2
        exact ⟨HE.out.bel, .inl ⟨HNO.out, rfl⟩⟩
      · have h0' : ((j : Int) == 0) = false := by rw [beq_eq_false_iff_ne]; omega
        have H0 := Lib.hid h0
        have hsm := msame_calls M m w.heap.size w.heap.size wr (HW.out.below HE.out.bel) (HM3.out.below HE.out.bel) HE.out.bel.size HE.out.bel.size
        go_wp2_with (first
          | refine step_load_want (o := ⟨some 56, _, _, _, _, _⟩) rfl rfl rfl HE.out.box Try.underlying37 rfl rfl ?_
          | refine step_load_want (o := ⟨some 57, _, _, _, _, _⟩) rfl rfl rfl HM1.out Try.underlying37 rfl rfl ?_)
        ((with_reducible refine hsm.mono ?_))
        rintro e w10 ⟨rfl, hb10⟩
        have HL10 := Lib.hid (bel_more HE.out.bel (Nat.le_refl _) hb10)
        have HO10 := Lib.hid (HE.out.objs.up hb10)
        rw [HM4.out]
        clear hsm hb10 HM1 HM3
        cases hs : M.val.same (agn (prts M.val.ty) M.val) with
        | false =>
          have HNO := Lib.hid (show mObjs M.val = none by rw [HT.out, if_pos (.inr hs)])
          clear hs
          go_wp2
          go_ret2
          exact ⟨HL10.out, .inl ⟨HNO.out, rfl⟩⟩
        | true =>
          have HYES := Lib.hid (show mObjs M.val = some (vals qs) by rw [HT.out, if_neg (by rw [hs, HLN.out]; simp [H0.out])])
          clear hs
          go_wp2
          go_ret2
          exact ⟨HL10.out, .inr ⟨A, c, qs, HYES.out, by rw [HQ.out]; rfl, HO10.out⟩⟩

theorem objects_calls (M : Ms) (w : World) (h : FineM w w.heap.size M) : Calls Try.prog 15 #[.agg M.cells.toArray] w (ObjsPost w M.val) := by
  by_cases ht : M.tl < 0 ∨ 255 < M.tl
  · exact objects_no M w ht
  · exact objects_go M w h (by omega) (by omega)
end Go.Proofs.Ythmgpffpiggomaa
