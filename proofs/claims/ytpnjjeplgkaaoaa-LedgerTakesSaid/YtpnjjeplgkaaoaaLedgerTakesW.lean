/-
  The law LedgerTakes, walked, under what the code must keep: the answer is true, and nothing that was there has turned. Condition: numbers of 64 bits.
-/
import Derived.Test.YtpnjjeplgkaaoaaLedgerEitherW
import Derived.Test.YtpnjjeplgkaaoaaLedgerFallsW
namespace Go.Proofs.Ytpnjjeplgkaaoaa
set_option maxRecDepth 100000
set_option linter.unusedVariables false
open Go.RowKit

set_option maxHeartbeats 6400000 in
theorem ltakes_walk (h1 : AddOk13) (h2 : RightOk13) (h3 : FreeOk13) (h4 : PutOk13) (l : Lg) (hl : LgOk l) (p : Int) (hp : -9223372036854775808 ≤ p ∧ p < 9223372036854775808) (b : Int) (hb : 0 ≤ b ∧ b < 18446744073709551616) (w : World) : Calls Try.prog 8 #[.agg (lgc l).toArray, .int .i64 p, .int .u64 b] w fun e w' => e = .returned (.bool true) ∧ Below w.heap.size w w' := by
  obtain ⟨b, rfl⟩ := Int.eq_ofNat_of_zero_le hb.1
  have hb' : b < 18446744073709551616 := by omega
  have okX := lPut_ok hl p b
  have hpc := h4 l hl p hp.1 hp.2 b hb'
  unfold Lgn13 at hpc
  have hfree := fun h i hi => free_put hl (p := p) (b := b) h (i := i) hi
  have hge := fun h i hi => free_ge (l := l) (p := p) (b := b) h (i := i) hi
  have hbF := fun i => lFree_bound l i
  have hcap := hl.2.1
  have k7 := h3 l hl
  have k8 := h3 _ okX
  have hflF := lFree_length l
  have hflG := lFree_length (lPut l p b).1
  obtain ⟨F, hF⟩ : ∃ F, lFree l = F := ⟨_, rfl⟩
  obtain ⟨G, hG⟩ : ∃ G, lFree (lPut l p b).1 = G := ⟨_, rfl⟩
  rw [hF] at k7 hflF
  rw [hG] at k8 hflG
  simp only [hF, hG] at hfree hge hbF
  obtain ⟨X, hX⟩ : ∃ X, (lPut l p b).1 = X := ⟨_, rfl⟩
  obtain ⟨E, hE⟩ : ∃ E, (lPut l p b).2 = E := ⟨_, rfl⟩
  rw [hX] at okX hpc k8
  rw [hE] at hpc
  simp only [hE] at hfree hge
  have HA := Lib.hid (fun W => alive13_calls h1 h2 h3 h4 W)
  have HT := Lib.hid (fun W => theirs13_calls l hl W)
  unfold Agg13 at HT
  have HP := Lib.hid hpc
  have K7 := Lib.hid k7
  have K8 := Lib.hid k8
  have HFREE := Lib.hid hfree
  have HGE := Lib.hid hge
  have HBF := Lib.hid (And.intro hbF hcap)
  have HGF := Lib.hid (fun i hi => hlc_get hflF (i := i) hi)
  have HGG := Lib.hid (fun i hi => hlc_get hflG (i := i) hi)
  have HIl := Lib.hid (infoLedg9R l hl)
  have HJl := Lib.hid (infoLedg9 l hl)
  have HOl := Lib.hid (lgc_one l)
  have HNl := Lib.hid (show ([.int .u64 0, .int .u64 0, .int .u64 0, .int .u64 0, .int .u64 0, .int .u64 0, .int .u64 0, .int .u64 0, .int .u64 0] : List Value).length = (lgc l).length by rw [lgc_length hl]; rfl)
  have HIX := Lib.hid (infoLedg9R X okX)
  have HJX := Lib.hid (infoLedg9 X okX)
  have HOX := Lib.hid (lgc_one X)
  have HNX := Lib.hid (show ([.int .u64 0, .int .u64 0, .int .u64 0, .int .u64 0, .int .u64 0, .int .u64 0, .int .u64 0, .int .u64 0, .int .u64 0] : List Value).length = (lgc X).length by rw [lgc_length okX]; rfl)
  have HIF := Lib.hid (show (Try.prog.info? 23).map (·.size) = some (hlc F).length by rw [hlc_length, hflF]; exact infoArrR)
  have HOF := Lib.hid (hlc_one F)
  have HNF := Lib.hid (show ([.int .u64 0, .int .u64 0, .int .u64 0, .int .u64 0, .int .u64 0, .int .u64 0, .int .u64 0, .int .u64 0] : List Value).length = (hlc F).length by rw [hlc_length, hflF]; rfl)
  have HIG := Lib.hid (show (Try.prog.info? 23).map (·.size) = some (hlc G).length by rw [hlc_length, hflG]; exact infoArrR)
  have HOG := Lib.hid (hlc_one G)
  have HNG := Lib.hid (show ([.int .u64 0, .int .u64 0, .int .u64 0, .int .u64 0, .int .u64 0, .int .u64 0, .int .u64 0, .int .u64 0] : List Value).length = (hlc G).length by rw [hlc_length, hflG]; rfl)
  have HZL := Lib.hid (fun W : World => (show Blk (W.alloc (.cells #[.int .u64 0, .int .u64 0, .int .u64 0, .int .u64 0, .int .u64 0, .int .u64 0, .int .u64 0, .int .u64 0, .int .u64 0] 30)) W.heap.size 30 [.int .u64 0, .int .u64 0, .int .u64 0, .int .u64 0, .int .u64 0, .int .u64 0, .int .u64 0, .int .u64 0, .int .u64 0] from Blk.new W _ _))
  have HZA := Lib.hid (fun W : World => (show Blk (W.alloc (.cells #[.int .u64 0, .int .u64 0, .int .u64 0, .int .u64 0, .int .u64 0, .int .u64 0, .int .u64 0, .int .u64 0] 23)) W.heap.size 23 [.int .u64 0, .int .u64 0, .int .u64 0, .int .u64 0, .int .u64 0, .int .u64 0, .int .u64 0, .int .u64 0] from Blk.new W _ _))
  have HBw1 := Lib.hid (Blk.new w 25 (lgc l))
  have HLw1 := Lib.hid (bel_new (Below.refl w.heap.size w) (.cells (lgc l).toArray 25))
  clear h1 h2 h3 h4 hF hG hX hE hflF hflG hfree hge hbF hcap hpc k7 k8 hp hb hb' hl okX
  go_enter Try.func8, Try.ntmps8
  go_wp2_with fail
  generalize (w.alloc (.cells (lgc l).toArray 25)) = w1 at *
  ((with_reducible refine (HA.out w1).mono ?_))
  rintro e w2 ⟨rfl, hb⟩
  have hb9 : Below w1.heap.size w1 w2 := hb
  have HBw2 := Lib.hid (HBw1.out.below hb9)
  have HLw2 := Lib.hid (HLw1.out.trans (hb9.mono HLw1.out.size))
  clear hb9 HBw1 HLw1
  clear hb
  go_wp2_with ((with_reducible refine step_load (o := ⟨some 15, _, _, _, _, _⟩) (x := .tmp 3) ?_ ?_ ?_ HBw2.out Try.underlying25 ?_ HIl.out ?_); (rfl); (rfl); (rfl); (rfl))
  ((with_reducible refine (HT.out w2).mono ?_))
  rintro e w3 ⟨rfl, hb⟩
  have hb9 : Below w2.heap.size w2 w3 := hb
  have HBw3 := Lib.hid (HBw2.out.below hb9)
  have HLw3 := Lib.hid (HLw2.out.trans (hb9.mono HLw2.out.size))
  clear hb9 HBw2 HLw2
  clear hb
  go_wp2_with fail
  ((with_reducible refine (HP.out w3).mono ?_))
  rintro e w4 ⟨rfl, hb⟩
  have hb9 : Below w3.heap.size w3 w4 := hb
  have HBw4 := Lib.hid (HBw3.out.below hb9)
  have HLw4 := Lib.hid (HLw3.out.trans (hb9.mono HLw3.out.size))
  clear hb9 HBw3 HLw3
  clear hb
  go_upto_region 4 with ((with_reducible refine step_store (o := ⟨none, _, _, _, _, _⟩) (vs := lgc X) (ty := 30) (x := .tmp 7) (y := .tmp 20) ?_ ?_ ?_ ?_ (HZL.out _) HJX.out HNX.out HOX.out ?_); (rfl); (rfl); (rfl); (rfl); intro w5 hb5 hg5 hs5)
  have HXw5 := Lib.hid hb5
  have hq5 : Below w4.heap.size w4 w5 := bel_upd (bel_new (Below.refl _ _) _) hg5 (Nat.le_refl _) (Nat.le_refl _)
  clear hb5 hg5 hs5
  have hb9 : Below w4.heap.size w4 w5 := hq5
  have HBw5 := Lib.hid (HBw4.out.below hb9)
  have HLw5 := Lib.hid (HLw4.out.trans (hb9.mono HLw4.out.size))
  clear hb9 HBw4 HLw4
  clear hq5
  generalize w4.heap.size = q5 at *
  by_cases hE : E = 0
  · subst hE
    have hfree := HFREE.out rfl
    have hge := HGE.out rfl
    have HFREE2 := Lib.hid hfree
    have HGE2 := Lib.hid hge
    clear hfree hge HFREE HGE
    go_upto_region 6 with fail
    go_cut [9, 10] from 24 to 28 (fun s t W => ∃ qa qb : Nat, s = Value.pointer (some ⟨qa, 0, none⟩) ∧ t = Value.pointer (some ⟨qb, 0, none⟩) ∧ Blk W qa 23 (hlc F) ∧ Blk W qb 23 (hlc G) ∧ Below w5.heap.size w5 W)
    case first =>
      refine region_way (fun W => Below w5.heap.size w5 W) (.step 0 true (.step 3 true (.three 1 5 6 (.three 2 5 6 (.three 4 5 6 (.both 5 6 (.step 6 false (.step 7 false (.step 8 false .done))) (.step 5 false (.step 7 false (.step 8 false .done)))) (.both 4 6 (.step 6 false (.step 7 false (.step 8 false .done))) (.step 4 false (.step 7 false (.step 8 false .done)))) (.both 4 5 (.step 5 false (.step 7 false (.step 8 false .done))) (.step 4 false (.step 7 false (.step 8 false .done))))) (.both 2 6 (.both 4 6 (.step 6 false (.step 7 false (.step 8 false .done))) (.step 4 false (.step 7 false (.step 8 false .done)))) (.step 2 false (.step 4 false (.step 7 false (.step 8 false .done))))) (.both 2 5 (.both 4 5 (.step 5 false (.step 7 false (.step 8 false .done))) (.step 4 false (.step 7 false (.step 8 false .done)))) (.step 2 false (.step 4 false (.step 7 false (.step 8 false .done)))))) (.both 1 6 (.both 2 6 (.both 4 6 (.step 6 false (.step 7 false (.step 8 false .done))) (.step 4 false (.step 7 false (.step 8 false .done)))) (.step 2 false (.step 4 false (.step 7 false (.step 8 false .done))))) (.step 1 false (.step 2 false (.step 4 false (.step 7 false (.step 8 false .done)))))) (.both 1 5 (.both 2 5 (.both 4 5 (.step 5 false (.step 7 false (.step 8 false .done))) (.step 4 false (.step 7 false (.step 8 false .done)))) (.step 2 false (.step 4 false (.step 7 false (.step 8 false .done))))) (.step 1 false (.step 2 false (.step 4 false (.step 7 false (.step 8 false .done)))))))))
        (by kernel_rfl) (by kernel_rfl) (by kernel_rfl) (by kernel_rfl) (fun _ _ _ _ _ h => h) (Below.refl _ _).drew ?_
      repeat first
        | refine way_load8 (x := .tmp 3) rfl (by rfl) rfl rfl (fun W hW => HBw5.out.below hW) Try.underlying25 rfl HIl.out ?_
          simp only [Act.put, List.setIfInBounds_toArray, List.set_cons_zero, List.set_cons_succ]
        | refine way_load8 (x := .tmp 7) rfl (by rfl) rfl rfl (fun W hW => HXw5.out.below hW) Try.underlying30 rfl HJX.out ?_
          simp only [Act.put, List.setIfInBounds_toArray, List.set_cons_zero, List.set_cons_succ]
        | refine way_pure (v := ?_) rfl (by rfl) (fun W hW => ?_) ?_
          rotate_left
          · clear hW
            go_simp
            with_reducible rfl
          simp only [Act.put, List.setIfInBounds_toArray, List.set_cons_zero, List.set_cons_succ]
      have hbd : Below w5.heap.size w5 w5.drew := (Below.refl _ _).drew
      generalize w5.drew = w6 at hbd ⊢
      have SBw6 := Lib.hid hbd
      clear hbd
      refine way_three rfl (by rfl) rfl (by rfl) rfl (by rfl) (fun K hK => ?_) (fun K hK => ?_) (fun K hK => ?_) 
      · skip
        go_simp
        ((with_reducible refine (HT.out w6).mono ?_))
        rintro e w7 ⟨rfl, hb⟩
        have SBw7 := Lib.hid (show Below w5.heap.size w5 w7 from SBw6.out.trans (hb.mono SBw6.out.size))
        clear hb
        go_simp
        refine hK _ _ (fun W => Below w5.heap.size w5 W) (fun W h => h) SBw7.out ?_
        clear hK K
        refine way_three rfl (by rfl) rfl (by rfl) rfl (by rfl) (fun K hK => ?_) (fun K hK => ?_) (fun K hK => ?_) 
        · skip
          go_simp
          ((with_reducible refine (K7.out w7).mono ?_))
          rintro e w8 ⟨rfl, hb⟩
          have SBw8 := Lib.hid (show Below w5.heap.size w5 w8 from SBw7.out.trans (hb.mono SBw7.out.size))
          clear hb
          go_simp
          refine hK _ _ (fun W => Below w5.heap.size w5 W) (fun W h => h) SBw8.out ?_
          clear hK K
          refine way_three rfl (by rfl) rfl (by rfl) rfl (by rfl) (fun K hK => ?_) (fun K hK => ?_) (fun K hK => ?_) 
          · skip
            go_simp
            ((with_reducible refine (K8.out w8).mono ?_))
            rintro e w9 ⟨rfl, hb⟩
            have SBw9 := Lib.hid (show Below w5.heap.size w5 w9 from SBw8.out.trans (hb.mono SBw8.out.size))
            clear hb
            go_simp
            refine hK _ _ (fun W => Below w5.heap.size w5 W) (fun W h => h) SBw9.out ?_
            clear hK K
            refine way_both rfl (by rfl) rfl (by rfl) (fun K hK => ?_) (fun K hK => ?_) 
            · skip
              go_simp
              have hbn : Below w9.heap.size w9 (w9.alloc (.cells #[.int .u64 0, .int .u64 0, .int .u64 0, .int .u64 0, .int .u64 0, .int .u64 0, .int .u64 0, .int .u64 0] 23)) := bel_new (Below.refl _ _) _
              have hpn := HZA.out w9
              have hqn : w5.heap.size ≤ w9.heap.size := SBw9.out.size
              generalize w9.alloc (.cells #[.int .u64 0, .int .u64 0, .int .u64 0, .int .u64 0, .int .u64 0, .int .u64 0, .int .u64 0, .int .u64 0] 23) = w10 at *
              have SBw10 := Lib.hid (show Below w5.heap.size w5 w10 from SBw9.out.trans (hbn.mono SBw9.out.size))
              generalize w9.heap.size = qBA at *
              have BAw10 := Lib.hid hpn
              have QBA := Lib.hid hqn
              clear hbn hpn hqn
              refine hK _ _ (fun W => Below w5.heap.size w5 W) (fun W h => h) SBw10.out ?_
              clear hK K
              refine way_make rfl (by rfl) (fun K hK => ?_)
              go_simp
              have hbn : Below w10.heap.size w10 (w10.alloc (.cells #[.int .u64 0, .int .u64 0, .int .u64 0, .int .u64 0, .int .u64 0, .int .u64 0, .int .u64 0, .int .u64 0] 23)) := bel_new (Below.refl _ _) _
              have hpn := HZA.out w10
              have hqn : w5.heap.size ≤ w10.heap.size := SBw10.out.size
              generalize w10.alloc (.cells #[.int .u64 0, .int .u64 0, .int .u64 0, .int .u64 0, .int .u64 0, .int .u64 0, .int .u64 0, .int .u64 0] 23) = w11 at *
              have NBABB := BAw10.out.lt
              have SBw11 := Lib.hid (show Below w5.heap.size w5 w11 from SBw10.out.trans (hbn.mono SBw10.out.size))
              have BAw11 := Lib.hid (BAw10.out.below hbn)
              generalize w10.heap.size = qBB at *
              have BBw11 := Lib.hid hpn
              have QBB := Lib.hid hqn
              clear hbn hpn hqn
              have NN := Lib.hid NBABB
              clear NBABB
              refine hK _ _ (fun W => Below w5.heap.size w5 W) (fun W h => h) SBw11.out ?_
              clear hK K
              refine way_make rfl (by rfl) (fun K hK => ?_)
              refine wp_store8 (vs := hlc F) rfl rfl rfl BAw11.out HIF.out HNF.out HOF.out ?_
              intro w12 hbs hgs hss
              have SBw12 := Lib.hid (show Below w5.heap.size w5 w12 from bel_upd SBw11.out hgs (Nat.le_refl _) QBA.out)
              have BBw12 := Lib.hid (BBw11.out.kept hgs (by have := NN.out; omega))
              have BAw12 := Lib.hid hbs
              clear hbs hgs hss
              refine hK _ _ (fun W => Below w5.heap.size w5 W) (fun W h => h) SBw12.out ?_
              clear hK K
              refine way_make rfl (by rfl) (fun K hK => ?_)
              refine wp_store8 (vs := hlc G) rfl rfl rfl BBw12.out HIG.out HNG.out HOG.out ?_
              intro w13 hbs hgs hss
              have SBw13 := Lib.hid (show Below w5.heap.size w5 w13 from bel_upd SBw12.out hgs (Nat.le_refl _) QBB.out)
              have BAw13 := Lib.hid (BAw12.out.kept hgs (by have := NN.out; omega))
              have BBw13 := Lib.hid hbs
              clear hbs hgs hss
              refine hK _ _ (fun W => Below w5.heap.size w5 W) (fun W h => h) SBw13.out ?_
              clear hK K
              refine way_done ?_
              go_wp2_with fail
              go_meet
              exact ⟨_, _, rfl, rfl, BAw13.out, BBw13.out, SBw13.out⟩
            · skip
              go_simp
              have hbn : Below w9.heap.size w9 (w9.alloc (.cells #[.int .u64 0, .int .u64 0, .int .u64 0, .int .u64 0, .int .u64 0, .int .u64 0, .int .u64 0, .int .u64 0] 23)) := bel_new (Below.refl _ _) _
              have hpn := HZA.out w9
              have hqn : w5.heap.size ≤ w9.heap.size := SBw9.out.size
              generalize w9.alloc (.cells #[.int .u64 0, .int .u64 0, .int .u64 0, .int .u64 0, .int .u64 0, .int .u64 0, .int .u64 0, .int .u64 0] 23) = w10 at *
              have SBw10 := Lib.hid (show Below w5.heap.size w5 w10 from SBw9.out.trans (hbn.mono SBw9.out.size))
              generalize w9.heap.size = qBB at *
              have BBw10 := Lib.hid hpn
              have QBB := Lib.hid hqn
              clear hbn hpn hqn
              refine hK _ _ (fun W => Below w5.heap.size w5 W) (fun W h => h) SBw10.out ?_
              clear hK K
              refine way_make rfl (by rfl) (fun K hK => ?_)
              go_simp
              have hbn : Below w10.heap.size w10 (w10.alloc (.cells #[.int .u64 0, .int .u64 0, .int .u64 0, .int .u64 0, .int .u64 0, .int .u64 0, .int .u64 0, .int .u64 0] 23)) := bel_new (Below.refl _ _) _
              have hpn := HZA.out w10
              have hqn : w5.heap.size ≤ w10.heap.size := SBw10.out.size
              generalize w10.alloc (.cells #[.int .u64 0, .int .u64 0, .int .u64 0, .int .u64 0, .int .u64 0, .int .u64 0, .int .u64 0, .int .u64 0] 23) = w11 at *
              have NBBBA := BBw10.out.lt
              have SBw11 := Lib.hid (show Below w5.heap.size w5 w11 from SBw10.out.trans (hbn.mono SBw10.out.size))
              have BBw11 := Lib.hid (BBw10.out.below hbn)
              generalize w10.heap.size = qBA at *
              have BAw11 := Lib.hid hpn
              have QBA := Lib.hid hqn
              clear hbn hpn hqn
              have NN := Lib.hid NBBBA
              clear NBBBA
              refine hK _ _ (fun W => Below w5.heap.size w5 W) (fun W h => h) SBw11.out ?_
              clear hK K
              refine way_make rfl (by rfl) (fun K hK => ?_)
              refine wp_store8 (vs := hlc F) rfl rfl rfl BAw11.out HIF.out HNF.out HOF.out ?_
              intro w12 hbs hgs hss
              have SBw12 := Lib.hid (show Below w5.heap.size w5 w12 from bel_upd SBw11.out hgs (Nat.le_refl _) QBA.out)
              have BBw12 := Lib.hid (BBw11.out.kept hgs (by have := NN.out; omega))
              have BAw12 := Lib.hid hbs
              clear hbs hgs hss
              refine hK _ _ (fun W => Below w5.heap.size w5 W) (fun W h => h) SBw12.out ?_
              clear hK K
              refine way_make rfl (by rfl) (fun K hK => ?_)
              refine wp_store8 (vs := hlc G) rfl rfl rfl BBw12.out HIG.out HNG.out HOG.out ?_
              intro w13 hbs hgs hss
              have SBw13 := Lib.hid (show Below w5.heap.size w5 w13 from bel_upd SBw12.out hgs (Nat.le_refl _) QBB.out)
              have BAw13 := Lib.hid (BAw12.out.kept hgs (by have := NN.out; omega))
              have BBw13 := Lib.hid hbs
              clear hbs hgs hss
              refine hK _ _ (fun W => Below w5.heap.size w5 W) (fun W h => h) SBw13.out ?_
              clear hK K
              refine way_done ?_
              go_wp2_with fail
              go_meet
              exact ⟨_, _, rfl, rfl, BAw13.out, BBw13.out, SBw13.out⟩
          · skip
            go_simp
            have hbn : Below w8.heap.size w8 (w8.alloc (.cells #[.int .u64 0, .int .u64 0, .int .u64 0, .int .u64 0, .int .u64 0, .int .u64 0, .int .u64 0, .int .u64 0] 23)) := bel_new (Below.refl _ _) _
            have hpn := HZA.out w8
            have hqn : w5.heap.size ≤ w8.heap.size := SBw8.out.size
            generalize w8.alloc (.cells #[.int .u64 0, .int .u64 0, .int .u64 0, .int .u64 0, .int .u64 0, .int .u64 0, .int .u64 0, .int .u64 0] 23) = w9 at *
            have SBw9 := Lib.hid (show Below w5.heap.size w5 w9 from SBw8.out.trans (hbn.mono SBw8.out.size))
            generalize w8.heap.size = qBA at *
            have BAw9 := Lib.hid hpn
            have QBA := Lib.hid hqn
            clear hbn hpn hqn
            refine hK _ _ (fun W => Below w5.heap.size w5 W) (fun W h => h) SBw9.out ?_
            clear hK K
            refine way_both rfl (by rfl) rfl (by rfl) (fun K hK => ?_) (fun K hK => ?_) 
            · skip
              go_simp
              ((with_reducible refine (K8.out w9).mono ?_))
              rintro e w10 ⟨rfl, hb⟩
              have SBw10 := Lib.hid (show Below w5.heap.size w5 w10 from SBw9.out.trans (hb.mono SBw9.out.size))
              have BAw10 := Lib.hid (BAw9.out.below hb)
              clear hb
              go_simp
              refine hK _ _ (fun W => Below w5.heap.size w5 W) (fun W h => h) SBw10.out ?_
              clear hK K
              refine way_make rfl (by rfl) (fun K hK => ?_)
              go_simp
              have hbn : Below w10.heap.size w10 (w10.alloc (.cells #[.int .u64 0, .int .u64 0, .int .u64 0, .int .u64 0, .int .u64 0, .int .u64 0, .int .u64 0, .int .u64 0] 23)) := bel_new (Below.refl _ _) _
              have hpn := HZA.out w10
              have hqn : w5.heap.size ≤ w10.heap.size := SBw10.out.size
              generalize w10.alloc (.cells #[.int .u64 0, .int .u64 0, .int .u64 0, .int .u64 0, .int .u64 0, .int .u64 0, .int .u64 0, .int .u64 0] 23) = w11 at *
              have NBABB := BAw10.out.lt
              have SBw11 := Lib.hid (show Below w5.heap.size w5 w11 from SBw10.out.trans (hbn.mono SBw10.out.size))
              have BAw11 := Lib.hid (BAw10.out.below hbn)
              generalize w10.heap.size = qBB at *
              have BBw11 := Lib.hid hpn
              have QBB := Lib.hid hqn
              clear hbn hpn hqn
              have NN := Lib.hid NBABB
              clear NBABB
              refine hK _ _ (fun W => Below w5.heap.size w5 W) (fun W h => h) SBw11.out ?_
              clear hK K
              refine way_make rfl (by rfl) (fun K hK => ?_)
              refine wp_store8 (vs := hlc F) rfl rfl rfl BAw11.out HIF.out HNF.out HOF.out ?_
              intro w12 hbs hgs hss
              have SBw12 := Lib.hid (show Below w5.heap.size w5 w12 from bel_upd SBw11.out hgs (Nat.le_refl _) QBA.out)
              have BBw12 := Lib.hid (BBw11.out.kept hgs (by have := NN.out; omega))
              have BAw12 := Lib.hid hbs
              clear hbs hgs hss
              refine hK _ _ (fun W => Below w5.heap.size w5 W) (fun W h => h) SBw12.out ?_
              clear hK K
              refine way_make rfl (by rfl) (fun K hK => ?_)
              refine wp_store8 (vs := hlc G) rfl rfl rfl BBw12.out HIG.out HNG.out HOG.out ?_
              intro w13 hbs hgs hss
              have SBw13 := Lib.hid (show Below w5.heap.size w5 w13 from bel_upd SBw12.out hgs (Nat.le_refl _) QBB.out)
              have BAw13 := Lib.hid (BAw12.out.kept hgs (by have := NN.out; omega))
              have BBw13 := Lib.hid hbs
              clear hbs hgs hss
              refine hK _ _ (fun W => Below w5.heap.size w5 W) (fun W h => h) SBw13.out ?_
              clear hK K
              refine way_done ?_
              go_wp2_with fail
              go_meet
              exact ⟨_, _, rfl, rfl, BAw13.out, BBw13.out, SBw13.out⟩
            · skip
              go_simp
              have hbn : Below w9.heap.size w9 (w9.alloc (.cells #[.int .u64 0, .int .u64 0, .int .u64 0, .int .u64 0, .int .u64 0, .int .u64 0, .int .u64 0, .int .u64 0] 23)) := bel_new (Below.refl _ _) _
              have hpn := HZA.out w9
              have hqn : w5.heap.size ≤ w9.heap.size := SBw9.out.size
              generalize w9.alloc (.cells #[.int .u64 0, .int .u64 0, .int .u64 0, .int .u64 0, .int .u64 0, .int .u64 0, .int .u64 0, .int .u64 0] 23) = w10 at *
              have NBABB := BAw9.out.lt
              have SBw10 := Lib.hid (show Below w5.heap.size w5 w10 from SBw9.out.trans (hbn.mono SBw9.out.size))
              have BAw10 := Lib.hid (BAw9.out.below hbn)
              generalize w9.heap.size = qBB at *
              have BBw10 := Lib.hid hpn
              have QBB := Lib.hid hqn
              clear hbn hpn hqn
              have NN := Lib.hid NBABB
              clear NBABB
              refine hK _ _ (fun W => Below w5.heap.size w5 W) (fun W h => h) SBw10.out ?_
              clear hK K
              refine way_make rfl (by rfl) (fun K hK => ?_)
              go_simp
              ((with_reducible refine (K8.out w10).mono ?_))
              rintro e w11 ⟨rfl, hb⟩
              have SBw11 := Lib.hid (show Below w5.heap.size w5 w11 from SBw10.out.trans (hb.mono SBw10.out.size))
              have BAw11 := Lib.hid (BAw10.out.below hb)
              have BBw11 := Lib.hid (BBw10.out.below hb)
              clear hb
              go_simp
              refine hK _ _ (fun W => Below w5.heap.size w5 W) (fun W h => h) SBw11.out ?_
              clear hK K
              refine way_make rfl (by rfl) (fun K hK => ?_)
              refine wp_store8 (vs := hlc F) rfl rfl rfl BAw11.out HIF.out HNF.out HOF.out ?_
              intro w12 hbs hgs hss
              have SBw12 := Lib.hid (show Below w5.heap.size w5 w12 from bel_upd SBw11.out hgs (Nat.le_refl _) QBA.out)
              have BBw12 := Lib.hid (BBw11.out.kept hgs (by have := NN.out; omega))
              have BAw12 := Lib.hid hbs
              clear hbs hgs hss
              refine hK _ _ (fun W => Below w5.heap.size w5 W) (fun W h => h) SBw12.out ?_
              clear hK K
              refine way_make rfl (by rfl) (fun K hK => ?_)
              refine wp_store8 (vs := hlc G) rfl rfl rfl BBw12.out HIG.out HNG.out HOG.out ?_
              intro w13 hbs hgs hss
              have SBw13 := Lib.hid (show Below w5.heap.size w5 w13 from bel_upd SBw12.out hgs (Nat.le_refl _) QBB.out)
              have BAw13 := Lib.hid (BAw12.out.kept hgs (by have := NN.out; omega))
              have BBw13 := Lib.hid hbs
              clear hbs hgs hss
              refine hK _ _ (fun W => Below w5.heap.size w5 W) (fun W h => h) SBw13.out ?_
              clear hK K
              refine way_done ?_
              go_wp2_with fail
              go_meet
              exact ⟨_, _, rfl, rfl, BAw13.out, BBw13.out, SBw13.out⟩
          · skip
            go_simp
            have hbn : Below w8.heap.size w8 (w8.alloc (.cells #[.int .u64 0, .int .u64 0, .int .u64 0, .int .u64 0, .int .u64 0, .int .u64 0, .int .u64 0, .int .u64 0] 23)) := bel_new (Below.refl _ _) _
            have hpn := HZA.out w8
            have hqn : w5.heap.size ≤ w8.heap.size := SBw8.out.size
            generalize w8.alloc (.cells #[.int .u64 0, .int .u64 0, .int .u64 0, .int .u64 0, .int .u64 0, .int .u64 0, .int .u64 0, .int .u64 0] 23) = w9 at *
            have SBw9 := Lib.hid (show Below w5.heap.size w5 w9 from SBw8.out.trans (hbn.mono SBw8.out.size))
            generalize w8.heap.size = qBB at *
            have BBw9 := Lib.hid hpn
            have QBB := Lib.hid hqn
            clear hbn hpn hqn
            refine hK _ _ (fun W => Below w5.heap.size w5 W) (fun W h => h) SBw9.out ?_
            clear hK K
            refine way_both rfl (by rfl) rfl (by rfl) (fun K hK => ?_) (fun K hK => ?_) 
            · skip
              go_simp
              ((with_reducible refine (K8.out w9).mono ?_))
              rintro e w10 ⟨rfl, hb⟩
              have SBw10 := Lib.hid (show Below w5.heap.size w5 w10 from SBw9.out.trans (hb.mono SBw9.out.size))
              have BBw10 := Lib.hid (BBw9.out.below hb)
              clear hb
              go_simp
              refine hK _ _ (fun W => Below w5.heap.size w5 W) (fun W h => h) SBw10.out ?_
              clear hK K
              refine way_make rfl (by rfl) (fun K hK => ?_)
              go_simp
              have hbn : Below w10.heap.size w10 (w10.alloc (.cells #[.int .u64 0, .int .u64 0, .int .u64 0, .int .u64 0, .int .u64 0, .int .u64 0, .int .u64 0, .int .u64 0] 23)) := bel_new (Below.refl _ _) _
              have hpn := HZA.out w10
              have hqn : w5.heap.size ≤ w10.heap.size := SBw10.out.size
              generalize w10.alloc (.cells #[.int .u64 0, .int .u64 0, .int .u64 0, .int .u64 0, .int .u64 0, .int .u64 0, .int .u64 0, .int .u64 0] 23) = w11 at *
              have NBBBA := BBw10.out.lt
              have SBw11 := Lib.hid (show Below w5.heap.size w5 w11 from SBw10.out.trans (hbn.mono SBw10.out.size))
              have BBw11 := Lib.hid (BBw10.out.below hbn)
              generalize w10.heap.size = qBA at *
              have BAw11 := Lib.hid hpn
              have QBA := Lib.hid hqn
              clear hbn hpn hqn
              have NN := Lib.hid NBBBA
              clear NBBBA
              refine hK _ _ (fun W => Below w5.heap.size w5 W) (fun W h => h) SBw11.out ?_
              clear hK K
              refine way_make rfl (by rfl) (fun K hK => ?_)
              refine wp_store8 (vs := hlc F) rfl rfl rfl BAw11.out HIF.out HNF.out HOF.out ?_
              intro w12 hbs hgs hss
              have SBw12 := Lib.hid (show Below w5.heap.size w5 w12 from bel_upd SBw11.out hgs (Nat.le_refl _) QBA.out)
              have BBw12 := Lib.hid (BBw11.out.kept hgs (by have := NN.out; omega))
              have BAw12 := Lib.hid hbs
              clear hbs hgs hss
              refine hK _ _ (fun W => Below w5.heap.size w5 W) (fun W h => h) SBw12.out ?_
              clear hK K
              refine way_make rfl (by rfl) (fun K hK => ?_)
              refine wp_store8 (vs := hlc G) rfl rfl rfl BBw12.out HIG.out HNG.out HOG.out ?_
              intro w13 hbs hgs hss
              have SBw13 := Lib.hid (show Below w5.heap.size w5 w13 from bel_upd SBw12.out hgs (Nat.le_refl _) QBB.out)
              have BAw13 := Lib.hid (BAw12.out.kept hgs (by have := NN.out; omega))
              have BBw13 := Lib.hid hbs
              clear hbs hgs hss
              refine hK _ _ (fun W => Below w5.heap.size w5 W) (fun W h => h) SBw13.out ?_
              clear hK K
              refine way_done ?_
              go_wp2_with fail
              go_meet
              exact ⟨_, _, rfl, rfl, BAw13.out, BBw13.out, SBw13.out⟩
            · skip
              go_simp
              have hbn : Below w9.heap.size w9 (w9.alloc (.cells #[.int .u64 0, .int .u64 0, .int .u64 0, .int .u64 0, .int .u64 0, .int .u64 0, .int .u64 0, .int .u64 0] 23)) := bel_new (Below.refl _ _) _
              have hpn := HZA.out w9
              have hqn : w5.heap.size ≤ w9.heap.size := SBw9.out.size
              generalize w9.alloc (.cells #[.int .u64 0, .int .u64 0, .int .u64 0, .int .u64 0, .int .u64 0, .int .u64 0, .int .u64 0, .int .u64 0] 23) = w10 at *
              have NBBBA := BBw9.out.lt
              have SBw10 := Lib.hid (show Below w5.heap.size w5 w10 from SBw9.out.trans (hbn.mono SBw9.out.size))
              have BBw10 := Lib.hid (BBw9.out.below hbn)
              generalize w9.heap.size = qBA at *
              have BAw10 := Lib.hid hpn
              have QBA := Lib.hid hqn
              clear hbn hpn hqn
              have NN := Lib.hid NBBBA
              clear NBBBA
              refine hK _ _ (fun W => Below w5.heap.size w5 W) (fun W h => h) SBw10.out ?_
              clear hK K
              refine way_make rfl (by rfl) (fun K hK => ?_)
              go_simp
              ((with_reducible refine (K8.out w10).mono ?_))
              rintro e w11 ⟨rfl, hb⟩
              have SBw11 := Lib.hid (show Below w5.heap.size w5 w11 from SBw10.out.trans (hb.mono SBw10.out.size))
              have BBw11 := Lib.hid (BBw10.out.below hb)
              have BAw11 := Lib.hid (BAw10.out.below hb)
              clear hb
              go_simp
              refine hK _ _ (fun W => Below w5.heap.size w5 W) (fun W h => h) SBw11.out ?_
              clear hK K
              refine way_make rfl (by rfl) (fun K hK => ?_)
              refine wp_store8 (vs := hlc F) rfl rfl rfl BAw11.out HIF.out HNF.out HOF.out ?_
              intro w12 hbs hgs hss
              have SBw12 := Lib.hid (show Below w5.heap.size w5 w12 from bel_upd SBw11.out hgs (Nat.le_refl _) QBA.out)
              have BBw12 := Lib.hid (BBw11.out.kept hgs (by have := NN.out; omega))
              have BAw12 := Lib.hid hbs
              clear hbs hgs hss
              refine hK _ _ (fun W => Below w5.heap.size w5 W) (fun W h => h) SBw12.out ?_
              clear hK K
              refine way_make rfl (by rfl) (fun K hK => ?_)
              refine wp_store8 (vs := hlc G) rfl rfl rfl BBw12.out HIG.out HNG.out HOG.out ?_
              intro w13 hbs hgs hss
              have SBw13 := Lib.hid (show Below w5.heap.size w5 w13 from bel_upd SBw12.out hgs (Nat.le_refl _) QBB.out)
              have BAw13 := Lib.hid (BAw12.out.kept hgs (by have := NN.out; omega))
              have BBw13 := Lib.hid hbs
              clear hbs hgs hss
              refine hK _ _ (fun W => Below w5.heap.size w5 W) (fun W h => h) SBw13.out ?_
              clear hK K
              refine way_done ?_
              go_wp2_with fail
              go_meet
              exact ⟨_, _, rfl, rfl, BAw13.out, BBw13.out, SBw13.out⟩
        · skip
          go_simp
          have hbn : Below w7.heap.size w7 (w7.alloc (.cells #[.int .u64 0, .int .u64 0, .int .u64 0, .int .u64 0, .int .u64 0, .int .u64 0, .int .u64 0, .int .u64 0] 23)) := bel_new (Below.refl _ _) _
          have hpn := HZA.out w7
          have hqn : w5.heap.size ≤ w7.heap.size := SBw7.out.size
          generalize w7.alloc (.cells #[.int .u64 0, .int .u64 0, .int .u64 0, .int .u64 0, .int .u64 0, .int .u64 0, .int .u64 0, .int .u64 0] 23) = w8 at *
          have SBw8 := Lib.hid (show Below w5.heap.size w5 w8 from SBw7.out.trans (hbn.mono SBw7.out.size))
          generalize w7.heap.size = qBA at *
          have BAw8 := Lib.hid hpn
          have QBA := Lib.hid hqn
          clear hbn hpn hqn
          refine hK _ _ (fun W => Below w5.heap.size w5 W) (fun W h => h) SBw8.out ?_
          clear hK K
          refine way_both rfl (by rfl) rfl (by rfl) (fun K hK => ?_) (fun K hK => ?_) 
          · skip
            go_simp
            ((with_reducible refine (K7.out w8).mono ?_))
            rintro e w9 ⟨rfl, hb⟩
            have SBw9 := Lib.hid (show Below w5.heap.size w5 w9 from SBw8.out.trans (hb.mono SBw8.out.size))
            have BAw9 := Lib.hid (BAw8.out.below hb)
            clear hb
            go_simp
            refine hK _ _ (fun W => Below w5.heap.size w5 W) (fun W h => h) SBw9.out ?_
            clear hK K
            refine way_both rfl (by rfl) rfl (by rfl) (fun K hK => ?_) (fun K hK => ?_) 
            · skip
              go_simp
              ((with_reducible refine (K8.out w9).mono ?_))
              rintro e w10 ⟨rfl, hb⟩
              have SBw10 := Lib.hid (show Below w5.heap.size w5 w10 from SBw9.out.trans (hb.mono SBw9.out.size))
              have BAw10 := Lib.hid (BAw9.out.below hb)
              clear hb
              go_simp
              refine hK _ _ (fun W => Below w5.heap.size w5 W) (fun W h => h) SBw10.out ?_
              clear hK K
              refine way_make rfl (by rfl) (fun K hK => ?_)
              go_simp
              have hbn : Below w10.heap.size w10 (w10.alloc (.cells #[.int .u64 0, .int .u64 0, .int .u64 0, .int .u64 0, .int .u64 0, .int .u64 0, .int .u64 0, .int .u64 0] 23)) := bel_new (Below.refl _ _) _
              have hpn := HZA.out w10
              have hqn : w5.heap.size ≤ w10.heap.size := SBw10.out.size
              generalize w10.alloc (.cells #[.int .u64 0, .int .u64 0, .int .u64 0, .int .u64 0, .int .u64 0, .int .u64 0, .int .u64 0, .int .u64 0] 23) = w11 at *
              have NBABB := BAw10.out.lt
              have SBw11 := Lib.hid (show Below w5.heap.size w5 w11 from SBw10.out.trans (hbn.mono SBw10.out.size))
              have BAw11 := Lib.hid (BAw10.out.below hbn)
              generalize w10.heap.size = qBB at *
              have BBw11 := Lib.hid hpn
              have QBB := Lib.hid hqn
              clear hbn hpn hqn
              have NN := Lib.hid NBABB
              clear NBABB
              refine hK _ _ (fun W => Below w5.heap.size w5 W) (fun W h => h) SBw11.out ?_
              clear hK K
              refine way_make rfl (by rfl) (fun K hK => ?_)
              refine wp_store8 (vs := hlc F) rfl rfl rfl BAw11.out HIF.out HNF.out HOF.out ?_
              intro w12 hbs hgs hss
              have SBw12 := Lib.hid (show Below w5.heap.size w5 w12 from bel_upd SBw11.out hgs (Nat.le_refl _) QBA.out)
              have BBw12 := Lib.hid (BBw11.out.kept hgs (by have := NN.out; omega))
              have BAw12 := Lib.hid hbs
              clear hbs hgs hss
              refine hK _ _ (fun W => Below w5.heap.size w5 W) (fun W h => h) SBw12.out ?_
              clear hK K
              refine way_make rfl (by rfl) (fun K hK => ?_)
              refine wp_store8 (vs := hlc G) rfl rfl rfl BBw12.out HIG.out HNG.out HOG.out ?_
              intro w13 hbs hgs hss
              have SBw13 := Lib.hid (show Below w5.heap.size w5 w13 from bel_upd SBw12.out hgs (Nat.le_refl _) QBB.out)
              have BAw13 := Lib.hid (BAw12.out.kept hgs (by have := NN.out; omega))
              have BBw13 := Lib.hid hbs
              clear hbs hgs hss
              refine hK _ _ (fun W => Below w5.heap.size w5 W) (fun W h => h) SBw13.out ?_
              clear hK K
              refine way_done ?_
              go_wp2_with fail
              go_meet
              exact ⟨_, _, rfl, rfl, BAw13.out, BBw13.out, SBw13.out⟩
            · skip
              go_simp
              have hbn : Below w9.heap.size w9 (w9.alloc (.cells #[.int .u64 0, .int .u64 0, .int .u64 0, .int .u64 0, .int .u64 0, .int .u64 0, .int .u64 0, .int .u64 0] 23)) := bel_new (Below.refl _ _) _
              have hpn := HZA.out w9
              have hqn : w5.heap.size ≤ w9.heap.size := SBw9.out.size
              generalize w9.alloc (.cells #[.int .u64 0, .int .u64 0, .int .u64 0, .int .u64 0, .int .u64 0, .int .u64 0, .int .u64 0, .int .u64 0] 23) = w10 at *
              have NBABB := BAw9.out.lt
              have SBw10 := Lib.hid (show Below w5.heap.size w5 w10 from SBw9.out.trans (hbn.mono SBw9.out.size))
              have BAw10 := Lib.hid (BAw9.out.below hbn)
              generalize w9.heap.size = qBB at *
              have BBw10 := Lib.hid hpn
              have QBB := Lib.hid hqn
              clear hbn hpn hqn
              have NN := Lib.hid NBABB
              clear NBABB
              refine hK _ _ (fun W => Below w5.heap.size w5 W) (fun W h => h) SBw10.out ?_
              clear hK K
              refine way_make rfl (by rfl) (fun K hK => ?_)
              go_simp
              ((with_reducible refine (K8.out w10).mono ?_))
              rintro e w11 ⟨rfl, hb⟩
              have SBw11 := Lib.hid (show Below w5.heap.size w5 w11 from SBw10.out.trans (hb.mono SBw10.out.size))
              have BAw11 := Lib.hid (BAw10.out.below hb)
              have BBw11 := Lib.hid (BBw10.out.below hb)
              clear hb
              go_simp
              refine hK _ _ (fun W => Below w5.heap.size w5 W) (fun W h => h) SBw11.out ?_
              clear hK K
              refine way_make rfl (by rfl) (fun K hK => ?_)
              refine wp_store8 (vs := hlc F) rfl rfl rfl BAw11.out HIF.out HNF.out HOF.out ?_
              intro w12 hbs hgs hss
              have SBw12 := Lib.hid (show Below w5.heap.size w5 w12 from bel_upd SBw11.out hgs (Nat.le_refl _) QBA.out)
              have BBw12 := Lib.hid (BBw11.out.kept hgs (by have := NN.out; omega))
              have BAw12 := Lib.hid hbs
              clear hbs hgs hss
              refine hK _ _ (fun W => Below w5.heap.size w5 W) (fun W h => h) SBw12.out ?_
              clear hK K
              refine way_make rfl (by rfl) (fun K hK => ?_)
              refine wp_store8 (vs := hlc G) rfl rfl rfl BBw12.out HIG.out HNG.out HOG.out ?_
              intro w13 hbs hgs hss
              have SBw13 := Lib.hid (show Below w5.heap.size w5 w13 from bel_upd SBw12.out hgs (Nat.le_refl _) QBB.out)
              have BAw13 := Lib.hid (BAw12.out.kept hgs (by have := NN.out; omega))
              have BBw13 := Lib.hid hbs
              clear hbs hgs hss
              refine hK _ _ (fun W => Below w5.heap.size w5 W) (fun W h => h) SBw13.out ?_
              clear hK K
              refine way_done ?_
              go_wp2_with fail
              go_meet
              exact ⟨_, _, rfl, rfl, BAw13.out, BBw13.out, SBw13.out⟩
          · skip
            go_simp
            have hbn : Below w8.heap.size w8 (w8.alloc (.cells #[.int .u64 0, .int .u64 0, .int .u64 0, .int .u64 0, .int .u64 0, .int .u64 0, .int .u64 0, .int .u64 0] 23)) := bel_new (Below.refl _ _) _
            have hpn := HZA.out w8
            have hqn : w5.heap.size ≤ w8.heap.size := SBw8.out.size
            generalize w8.alloc (.cells #[.int .u64 0, .int .u64 0, .int .u64 0, .int .u64 0, .int .u64 0, .int .u64 0, .int .u64 0, .int .u64 0] 23) = w9 at *
            have NBABB := BAw8.out.lt
            have SBw9 := Lib.hid (show Below w5.heap.size w5 w9 from SBw8.out.trans (hbn.mono SBw8.out.size))
            have BAw9 := Lib.hid (BAw8.out.below hbn)
            generalize w8.heap.size = qBB at *
            have BBw9 := Lib.hid hpn
            have QBB := Lib.hid hqn
            clear hbn hpn hqn
            have NN := Lib.hid NBABB
            clear NBABB
            refine hK _ _ (fun W => Below w5.heap.size w5 W) (fun W h => h) SBw9.out ?_
            clear hK K
            refine way_make rfl (by rfl) (fun K hK => ?_)
            go_simp
            ((with_reducible refine (K7.out w9).mono ?_))
            rintro e w10 ⟨rfl, hb⟩
            have SBw10 := Lib.hid (show Below w5.heap.size w5 w10 from SBw9.out.trans (hb.mono SBw9.out.size))
            have BAw10 := Lib.hid (BAw9.out.below hb)
            have BBw10 := Lib.hid (BBw9.out.below hb)
            clear hb
            go_simp
            refine hK _ _ (fun W => Below w5.heap.size w5 W) (fun W h => h) SBw10.out ?_
            clear hK K
            refine way_make rfl (by rfl) (fun K hK => ?_)
            go_simp
            ((with_reducible refine (K8.out w10).mono ?_))
            rintro e w11 ⟨rfl, hb⟩
            have SBw11 := Lib.hid (show Below w5.heap.size w5 w11 from SBw10.out.trans (hb.mono SBw10.out.size))
            have BAw11 := Lib.hid (BAw10.out.below hb)
            have BBw11 := Lib.hid (BBw10.out.below hb)
            clear hb
            go_simp
            refine hK _ _ (fun W => Below w5.heap.size w5 W) (fun W h => h) SBw11.out ?_
            clear hK K
            refine way_make rfl (by rfl) (fun K hK => ?_)
            refine wp_store8 (vs := hlc F) rfl rfl rfl BAw11.out HIF.out HNF.out HOF.out ?_
            intro w12 hbs hgs hss
            have SBw12 := Lib.hid (show Below w5.heap.size w5 w12 from bel_upd SBw11.out hgs (Nat.le_refl _) QBA.out)
            have BBw12 := Lib.hid (BBw11.out.kept hgs (by have := NN.out; omega))
            have BAw12 := Lib.hid hbs
            clear hbs hgs hss
            refine hK _ _ (fun W => Below w5.heap.size w5 W) (fun W h => h) SBw12.out ?_
            clear hK K
            refine way_make rfl (by rfl) (fun K hK => ?_)
            refine wp_store8 (vs := hlc G) rfl rfl rfl BBw12.out HIG.out HNG.out HOG.out ?_
            intro w13 hbs hgs hss
            have SBw13 := Lib.hid (show Below w5.heap.size w5 w13 from bel_upd SBw12.out hgs (Nat.le_refl _) QBB.out)
            have BAw13 := Lib.hid (BAw12.out.kept hgs (by have := NN.out; omega))
            have BBw13 := Lib.hid hbs
            clear hbs hgs hss
            refine hK _ _ (fun W => Below w5.heap.size w5 W) (fun W h => h) SBw13.out ?_
            clear hK K
            refine way_done ?_
            go_wp2_with fail
            go_meet
            exact ⟨_, _, rfl, rfl, BAw13.out, BBw13.out, SBw13.out⟩
        · skip
          go_simp
          have hbn : Below w7.heap.size w7 (w7.alloc (.cells #[.int .u64 0, .int .u64 0, .int .u64 0, .int .u64 0, .int .u64 0, .int .u64 0, .int .u64 0, .int .u64 0] 23)) := bel_new (Below.refl _ _) _
          have hpn := HZA.out w7
          have hqn : w5.heap.size ≤ w7.heap.size := SBw7.out.size
          generalize w7.alloc (.cells #[.int .u64 0, .int .u64 0, .int .u64 0, .int .u64 0, .int .u64 0, .int .u64 0, .int .u64 0, .int .u64 0] 23) = w8 at *
          have SBw8 := Lib.hid (show Below w5.heap.size w5 w8 from SBw7.out.trans (hbn.mono SBw7.out.size))
          generalize w7.heap.size = qBB at *
          have BBw8 := Lib.hid hpn
          have QBB := Lib.hid hqn
          clear hbn hpn hqn
          refine hK _ _ (fun W => Below w5.heap.size w5 W) (fun W h => h) SBw8.out ?_
          clear hK K
          refine way_both rfl (by rfl) rfl (by rfl) (fun K hK => ?_) (fun K hK => ?_) 
          · skip
            go_simp
            ((with_reducible refine (K7.out w8).mono ?_))
            rintro e w9 ⟨rfl, hb⟩
            have SBw9 := Lib.hid (show Below w5.heap.size w5 w9 from SBw8.out.trans (hb.mono SBw8.out.size))
            have BBw9 := Lib.hid (BBw8.out.below hb)
            clear hb
            go_simp
            refine hK _ _ (fun W => Below w5.heap.size w5 W) (fun W h => h) SBw9.out ?_
            clear hK K
            refine way_both rfl (by rfl) rfl (by rfl) (fun K hK => ?_) (fun K hK => ?_) 
            · skip
              go_simp
              ((with_reducible refine (K8.out w9).mono ?_))
              rintro e w10 ⟨rfl, hb⟩
              have SBw10 := Lib.hid (show Below w5.heap.size w5 w10 from SBw9.out.trans (hb.mono SBw9.out.size))
              have BBw10 := Lib.hid (BBw9.out.below hb)
              clear hb
              go_simp
              refine hK _ _ (fun W => Below w5.heap.size w5 W) (fun W h => h) SBw10.out ?_
              clear hK K
              refine way_make rfl (by rfl) (fun K hK => ?_)
              go_simp
              have hbn : Below w10.heap.size w10 (w10.alloc (.cells #[.int .u64 0, .int .u64 0, .int .u64 0, .int .u64 0, .int .u64 0, .int .u64 0, .int .u64 0, .int .u64 0] 23)) := bel_new (Below.refl _ _) _
              have hpn := HZA.out w10
              have hqn : w5.heap.size ≤ w10.heap.size := SBw10.out.size
              generalize w10.alloc (.cells #[.int .u64 0, .int .u64 0, .int .u64 0, .int .u64 0, .int .u64 0, .int .u64 0, .int .u64 0, .int .u64 0] 23) = w11 at *
              have NBBBA := BBw10.out.lt
              have SBw11 := Lib.hid (show Below w5.heap.size w5 w11 from SBw10.out.trans (hbn.mono SBw10.out.size))
              have BBw11 := Lib.hid (BBw10.out.below hbn)
              generalize w10.heap.size = qBA at *
              have BAw11 := Lib.hid hpn
              have QBA := Lib.hid hqn
              clear hbn hpn hqn
              have NN := Lib.hid NBBBA
              clear NBBBA
              refine hK _ _ (fun W => Below w5.heap.size w5 W) (fun W h => h) SBw11.out ?_
              clear hK K
              refine way_make rfl (by rfl) (fun K hK => ?_)
              refine wp_store8 (vs := hlc F) rfl rfl rfl BAw11.out HIF.out HNF.out HOF.out ?_
              intro w12 hbs hgs hss
              have SBw12 := Lib.hid (show Below w5.heap.size w5 w12 from bel_upd SBw11.out hgs (Nat.le_refl _) QBA.out)
              have BBw12 := Lib.hid (BBw11.out.kept hgs (by have := NN.out; omega))
              have BAw12 := Lib.hid hbs
              clear hbs hgs hss
              refine hK _ _ (fun W => Below w5.heap.size w5 W) (fun W h => h) SBw12.out ?_
              clear hK K
              refine way_make rfl (by rfl) (fun K hK => ?_)
              refine wp_store8 (vs := hlc G) rfl rfl rfl BBw12.out HIG.out HNG.out HOG.out ?_
              intro w13 hbs hgs hss
              have SBw13 := Lib.hid (show Below w5.heap.size w5 w13 from bel_upd SBw12.out hgs (Nat.le_refl _) QBB.out)
              have BAw13 := Lib.hid (BAw12.out.kept hgs (by have := NN.out; omega))
              have BBw13 := Lib.hid hbs
              clear hbs hgs hss
              refine hK _ _ (fun W => Below w5.heap.size w5 W) (fun W h => h) SBw13.out ?_
              clear hK K
              refine way_done ?_
              go_wp2_with fail
              go_meet
              exact ⟨_, _, rfl, rfl, BAw13.out, BBw13.out, SBw13.out⟩
            · skip
              go_simp
              have hbn : Below w9.heap.size w9 (w9.alloc (.cells #[.int .u64 0, .int .u64 0, .int .u64 0, .int .u64 0, .int .u64 0, .int .u64 0, .int .u64 0, .int .u64 0] 23)) := bel_new (Below.refl _ _) _
              have hpn := HZA.out w9
              have hqn : w5.heap.size ≤ w9.heap.size := SBw9.out.size
              generalize w9.alloc (.cells #[.int .u64 0, .int .u64 0, .int .u64 0, .int .u64 0, .int .u64 0, .int .u64 0, .int .u64 0, .int .u64 0] 23) = w10 at *
              have NBBBA := BBw9.out.lt
              have SBw10 := Lib.hid (show Below w5.heap.size w5 w10 from SBw9.out.trans (hbn.mono SBw9.out.size))
              have BBw10 := Lib.hid (BBw9.out.below hbn)
              generalize w9.heap.size = qBA at *
              have BAw10 := Lib.hid hpn
              have QBA := Lib.hid hqn
              clear hbn hpn hqn
              have NN := Lib.hid NBBBA
              clear NBBBA
              refine hK _ _ (fun W => Below w5.heap.size w5 W) (fun W h => h) SBw10.out ?_
              clear hK K
              refine way_make rfl (by rfl) (fun K hK => ?_)
              go_simp
              ((with_reducible refine (K8.out w10).mono ?_))
              rintro e w11 ⟨rfl, hb⟩
              have SBw11 := Lib.hid (show Below w5.heap.size w5 w11 from SBw10.out.trans (hb.mono SBw10.out.size))
              have BBw11 := Lib.hid (BBw10.out.below hb)
              have BAw11 := Lib.hid (BAw10.out.below hb)
              clear hb
              go_simp
              refine hK _ _ (fun W => Below w5.heap.size w5 W) (fun W h => h) SBw11.out ?_
              clear hK K
              refine way_make rfl (by rfl) (fun K hK => ?_)
              refine wp_store8 (vs := hlc F) rfl rfl rfl BAw11.out HIF.out HNF.out HOF.out ?_
              intro w12 hbs hgs hss
              have SBw12 := Lib.hid (show Below w5.heap.size w5 w12 from bel_upd SBw11.out hgs (Nat.le_refl _) QBA.out)
              have BBw12 := Lib.hid (BBw11.out.kept hgs (by have := NN.out; omega))
              have BAw12 := Lib.hid hbs
              clear hbs hgs hss
              refine hK _ _ (fun W => Below w5.heap.size w5 W) (fun W h => h) SBw12.out ?_
              clear hK K
              refine way_make rfl (by rfl) (fun K hK => ?_)
              refine wp_store8 (vs := hlc G) rfl rfl rfl BBw12.out HIG.out HNG.out HOG.out ?_
              intro w13 hbs hgs hss
              have SBw13 := Lib.hid (show Below w5.heap.size w5 w13 from bel_upd SBw12.out hgs (Nat.le_refl _) QBB.out)
              have BAw13 := Lib.hid (BAw12.out.kept hgs (by have := NN.out; omega))
              have BBw13 := Lib.hid hbs
              clear hbs hgs hss
              refine hK _ _ (fun W => Below w5.heap.size w5 W) (fun W h => h) SBw13.out ?_
              clear hK K
              refine way_done ?_
              go_wp2_with fail
              go_meet
              exact ⟨_, _, rfl, rfl, BAw13.out, BBw13.out, SBw13.out⟩
          · skip
            go_simp
            have hbn : Below w8.heap.size w8 (w8.alloc (.cells #[.int .u64 0, .int .u64 0, .int .u64 0, .int .u64 0, .int .u64 0, .int .u64 0, .int .u64 0, .int .u64 0] 23)) := bel_new (Below.refl _ _) _
            have hpn := HZA.out w8
            have hqn : w5.heap.size ≤ w8.heap.size := SBw8.out.size
            generalize w8.alloc (.cells #[.int .u64 0, .int .u64 0, .int .u64 0, .int .u64 0, .int .u64 0, .int .u64 0, .int .u64 0, .int .u64 0] 23) = w9 at *
            have NBBBA := BBw8.out.lt
            have SBw9 := Lib.hid (show Below w5.heap.size w5 w9 from SBw8.out.trans (hbn.mono SBw8.out.size))
            have BBw9 := Lib.hid (BBw8.out.below hbn)
            generalize w8.heap.size = qBA at *
            have BAw9 := Lib.hid hpn
            have QBA := Lib.hid hqn
            clear hbn hpn hqn
            have NN := Lib.hid NBBBA
            clear NBBBA
            refine hK _ _ (fun W => Below w5.heap.size w5 W) (fun W h => h) SBw9.out ?_
            clear hK K
            refine way_make rfl (by rfl) (fun K hK => ?_)
            go_simp
            ((with_reducible refine (K7.out w9).mono ?_))
            rintro e w10 ⟨rfl, hb⟩
            have SBw10 := Lib.hid (show Below w5.heap.size w5 w10 from SBw9.out.trans (hb.mono SBw9.out.size))
            have BBw10 := Lib.hid (BBw9.out.below hb)
            have BAw10 := Lib.hid (BAw9.out.below hb)
            clear hb
            go_simp
            refine hK _ _ (fun W => Below w5.heap.size w5 W) (fun W h => h) SBw10.out ?_
            clear hK K
            refine way_make rfl (by rfl) (fun K hK => ?_)
            go_simp
            ((with_reducible refine (K8.out w10).mono ?_))
            rintro e w11 ⟨rfl, hb⟩
            have SBw11 := Lib.hid (show Below w5.heap.size w5 w11 from SBw10.out.trans (hb.mono SBw10.out.size))
            have BBw11 := Lib.hid (BBw10.out.below hb)
            have BAw11 := Lib.hid (BAw10.out.below hb)
            clear hb
            go_simp
            refine hK _ _ (fun W => Below w5.heap.size w5 W) (fun W h => h) SBw11.out ?_
            clear hK K
            refine way_make rfl (by rfl) (fun K hK => ?_)
            refine wp_store8 (vs := hlc F) rfl rfl rfl BAw11.out HIF.out HNF.out HOF.out ?_
            intro w12 hbs hgs hss
            have SBw12 := Lib.hid (show Below w5.heap.size w5 w12 from bel_upd SBw11.out hgs (Nat.le_refl _) QBA.out)
            have BBw12 := Lib.hid (BBw11.out.kept hgs (by have := NN.out; omega))
            have BAw12 := Lib.hid hbs
            clear hbs hgs hss
            refine hK _ _ (fun W => Below w5.heap.size w5 W) (fun W h => h) SBw12.out ?_
            clear hK K
            refine way_make rfl (by rfl) (fun K hK => ?_)
            refine wp_store8 (vs := hlc G) rfl rfl rfl BBw12.out HIG.out HNG.out HOG.out ?_
            intro w13 hbs hgs hss
            have SBw13 := Lib.hid (show Below w5.heap.size w5 w13 from bel_upd SBw12.out hgs (Nat.le_refl _) QBB.out)
            have BAw13 := Lib.hid (BAw12.out.kept hgs (by have := NN.out; omega))
            have BBw13 := Lib.hid hbs
            clear hbs hgs hss
            refine hK _ _ (fun W => Below w5.heap.size w5 W) (fun W h => h) SBw13.out ?_
            clear hK K
            refine way_done ?_
            go_wp2_with fail
            go_meet
            exact ⟨_, _, rfl, rfl, BAw13.out, BBw13.out, SBw13.out⟩
      · skip
        go_simp
        have hbn : Below w6.heap.size w6 (w6.alloc (.cells #[.int .u64 0, .int .u64 0, .int .u64 0, .int .u64 0, .int .u64 0, .int .u64 0, .int .u64 0, .int .u64 0] 23)) := bel_new (Below.refl _ _) _
        have hpn := HZA.out w6
        have hqn : w5.heap.size ≤ w6.heap.size := SBw6.out.size
        generalize w6.alloc (.cells #[.int .u64 0, .int .u64 0, .int .u64 0, .int .u64 0, .int .u64 0, .int .u64 0, .int .u64 0, .int .u64 0] 23) = w7 at *
        have SBw7 := Lib.hid (show Below w5.heap.size w5 w7 from SBw6.out.trans (hbn.mono SBw6.out.size))
        generalize w6.heap.size = qBA at *
        have BAw7 := Lib.hid hpn
        have QBA := Lib.hid hqn
        clear hbn hpn hqn
        refine hK _ _ (fun W => Below w5.heap.size w5 W) (fun W h => h) SBw7.out ?_
        clear hK K
        refine way_both rfl (by rfl) rfl (by rfl) (fun K hK => ?_) (fun K hK => ?_) 
        · skip
          go_simp
          ((with_reducible refine (HT.out w7).mono ?_))
          rintro e w8 ⟨rfl, hb⟩
          have SBw8 := Lib.hid (show Below w5.heap.size w5 w8 from SBw7.out.trans (hb.mono SBw7.out.size))
          have BAw8 := Lib.hid (BAw7.out.below hb)
          clear hb
          go_simp
          refine hK _ _ (fun W => Below w5.heap.size w5 W) (fun W h => h) SBw8.out ?_
          clear hK K
          refine way_both rfl (by rfl) rfl (by rfl) (fun K hK => ?_) (fun K hK => ?_) 
          · skip
            go_simp
            ((with_reducible refine (K7.out w8).mono ?_))
            rintro e w9 ⟨rfl, hb⟩
            have SBw9 := Lib.hid (show Below w5.heap.size w5 w9 from SBw8.out.trans (hb.mono SBw8.out.size))
            have BAw9 := Lib.hid (BAw8.out.below hb)
            clear hb
            go_simp
            refine hK _ _ (fun W => Below w5.heap.size w5 W) (fun W h => h) SBw9.out ?_
            clear hK K
            refine way_both rfl (by rfl) rfl (by rfl) (fun K hK => ?_) (fun K hK => ?_) 
            · skip
              go_simp
              ((with_reducible refine (K8.out w9).mono ?_))
              rintro e w10 ⟨rfl, hb⟩
              have SBw10 := Lib.hid (show Below w5.heap.size w5 w10 from SBw9.out.trans (hb.mono SBw9.out.size))
              have BAw10 := Lib.hid (BAw9.out.below hb)
              clear hb
              go_simp
              refine hK _ _ (fun W => Below w5.heap.size w5 W) (fun W h => h) SBw10.out ?_
              clear hK K
              refine way_make rfl (by rfl) (fun K hK => ?_)
              go_simp
              have hbn : Below w10.heap.size w10 (w10.alloc (.cells #[.int .u64 0, .int .u64 0, .int .u64 0, .int .u64 0, .int .u64 0, .int .u64 0, .int .u64 0, .int .u64 0] 23)) := bel_new (Below.refl _ _) _
              have hpn := HZA.out w10
              have hqn : w5.heap.size ≤ w10.heap.size := SBw10.out.size
              generalize w10.alloc (.cells #[.int .u64 0, .int .u64 0, .int .u64 0, .int .u64 0, .int .u64 0, .int .u64 0, .int .u64 0, .int .u64 0] 23) = w11 at *
              have NBABB := BAw10.out.lt
              have SBw11 := Lib.hid (show Below w5.heap.size w5 w11 from SBw10.out.trans (hbn.mono SBw10.out.size))
              have BAw11 := Lib.hid (BAw10.out.below hbn)
              generalize w10.heap.size = qBB at *
              have BBw11 := Lib.hid hpn
              have QBB := Lib.hid hqn
              clear hbn hpn hqn
              have NN := Lib.hid NBABB
              clear NBABB
              refine hK _ _ (fun W => Below w5.heap.size w5 W) (fun W h => h) SBw11.out ?_
              clear hK K
              refine way_make rfl (by rfl) (fun K hK => ?_)
              refine wp_store8 (vs := hlc F) rfl rfl rfl BAw11.out HIF.out HNF.out HOF.out ?_
              intro w12 hbs hgs hss
              have SBw12 := Lib.hid (show Below w5.heap.size w5 w12 from bel_upd SBw11.out hgs (Nat.le_refl _) QBA.out)
              have BBw12 := Lib.hid (BBw11.out.kept hgs (by have := NN.out; omega))
              have BAw12 := Lib.hid hbs
              clear hbs hgs hss
              refine hK _ _ (fun W => Below w5.heap.size w5 W) (fun W h => h) SBw12.out ?_
              clear hK K
              refine way_make rfl (by rfl) (fun K hK => ?_)
              refine wp_store8 (vs := hlc G) rfl rfl rfl BBw12.out HIG.out HNG.out HOG.out ?_
              intro w13 hbs hgs hss
              have SBw13 := Lib.hid (show Below w5.heap.size w5 w13 from bel_upd SBw12.out hgs (Nat.le_refl _) QBB.out)
              have BAw13 := Lib.hid (BAw12.out.kept hgs (by have := NN.out; omega))
              have BBw13 := Lib.hid hbs
              clear hbs hgs hss
              refine hK _ _ (fun W => Below w5.heap.size w5 W) (fun W h => h) SBw13.out ?_
              clear hK K
              refine way_done ?_
              go_wp2_with fail
              go_meet
              exact ⟨_, _, rfl, rfl, BAw13.out, BBw13.out, SBw13.out⟩
            · skip
              go_simp
              have hbn : Below w9.heap.size w9 (w9.alloc (.cells #[.int .u64 0, .int .u64 0, .int .u64 0, .int .u64 0, .int .u64 0, .int .u64 0, .int .u64 0, .int .u64 0] 23)) := bel_new (Below.refl _ _) _
              have hpn := HZA.out w9
              have hqn : w5.heap.size ≤ w9.heap.size := SBw9.out.size
              generalize w9.alloc (.cells #[.int .u64 0, .int .u64 0, .int .u64 0, .int .u64 0, .int .u64 0, .int .u64 0, .int .u64 0, .int .u64 0] 23) = w10 at *
              have NBABB := BAw9.out.lt
              have SBw10 := Lib.hid (show Below w5.heap.size w5 w10 from SBw9.out.trans (hbn.mono SBw9.out.size))
              have BAw10 := Lib.hid (BAw9.out.below hbn)
              generalize w9.heap.size = qBB at *
              have BBw10 := Lib.hid hpn
              have QBB := Lib.hid hqn
              clear hbn hpn hqn
              have NN := Lib.hid NBABB
              clear NBABB
              refine hK _ _ (fun W => Below w5.heap.size w5 W) (fun W h => h) SBw10.out ?_
              clear hK K
              refine way_make rfl (by rfl) (fun K hK => ?_)
              go_simp
              ((with_reducible refine (K8.out w10).mono ?_))
              rintro e w11 ⟨rfl, hb⟩
              have SBw11 := Lib.hid (show Below w5.heap.size w5 w11 from SBw10.out.trans (hb.mono SBw10.out.size))
              have BAw11 := Lib.hid (BAw10.out.below hb)
              have BBw11 := Lib.hid (BBw10.out.below hb)
              clear hb
              go_simp
              refine hK _ _ (fun W => Below w5.heap.size w5 W) (fun W h => h) SBw11.out ?_
              clear hK K
              refine way_make rfl (by rfl) (fun K hK => ?_)
              refine wp_store8 (vs := hlc F) rfl rfl rfl BAw11.out HIF.out HNF.out HOF.out ?_
              intro w12 hbs hgs hss
              have SBw12 := Lib.hid (show Below w5.heap.size w5 w12 from bel_upd SBw11.out hgs (Nat.le_refl _) QBA.out)
              have BBw12 := Lib.hid (BBw11.out.kept hgs (by have := NN.out; omega))
              have BAw12 := Lib.hid hbs
              clear hbs hgs hss
              refine hK _ _ (fun W => Below w5.heap.size w5 W) (fun W h => h) SBw12.out ?_
              clear hK K
              refine way_make rfl (by rfl) (fun K hK => ?_)
              refine wp_store8 (vs := hlc G) rfl rfl rfl BBw12.out HIG.out HNG.out HOG.out ?_
              intro w13 hbs hgs hss
              have SBw13 := Lib.hid (show Below w5.heap.size w5 w13 from bel_upd SBw12.out hgs (Nat.le_refl _) QBB.out)
              have BAw13 := Lib.hid (BAw12.out.kept hgs (by have := NN.out; omega))
              have BBw13 := Lib.hid hbs
              clear hbs hgs hss
              refine hK _ _ (fun W => Below w5.heap.size w5 W) (fun W h => h) SBw13.out ?_
              clear hK K
              refine way_done ?_
              go_wp2_with fail
              go_meet
              exact ⟨_, _, rfl, rfl, BAw13.out, BBw13.out, SBw13.out⟩
          · skip
            go_simp
            have hbn : Below w8.heap.size w8 (w8.alloc (.cells #[.int .u64 0, .int .u64 0, .int .u64 0, .int .u64 0, .int .u64 0, .int .u64 0, .int .u64 0, .int .u64 0] 23)) := bel_new (Below.refl _ _) _
            have hpn := HZA.out w8
            have hqn : w5.heap.size ≤ w8.heap.size := SBw8.out.size
            generalize w8.alloc (.cells #[.int .u64 0, .int .u64 0, .int .u64 0, .int .u64 0, .int .u64 0, .int .u64 0, .int .u64 0, .int .u64 0] 23) = w9 at *
            have NBABB := BAw8.out.lt
            have SBw9 := Lib.hid (show Below w5.heap.size w5 w9 from SBw8.out.trans (hbn.mono SBw8.out.size))
            have BAw9 := Lib.hid (BAw8.out.below hbn)
            generalize w8.heap.size = qBB at *
            have BBw9 := Lib.hid hpn
            have QBB := Lib.hid hqn
            clear hbn hpn hqn
            have NN := Lib.hid NBABB
            clear NBABB
            refine hK _ _ (fun W => Below w5.heap.size w5 W) (fun W h => h) SBw9.out ?_
            clear hK K
            refine way_make rfl (by rfl) (fun K hK => ?_)
            go_simp
            ((with_reducible refine (K7.out w9).mono ?_))
            rintro e w10 ⟨rfl, hb⟩
            have SBw10 := Lib.hid (show Below w5.heap.size w5 w10 from SBw9.out.trans (hb.mono SBw9.out.size))
            have BAw10 := Lib.hid (BAw9.out.below hb)
            have BBw10 := Lib.hid (BBw9.out.below hb)
            clear hb
            go_simp
            refine hK _ _ (fun W => Below w5.heap.size w5 W) (fun W h => h) SBw10.out ?_
            clear hK K
            refine way_make rfl (by rfl) (fun K hK => ?_)
            go_simp
            ((with_reducible refine (K8.out w10).mono ?_))
            rintro e w11 ⟨rfl, hb⟩
            have SBw11 := Lib.hid (show Below w5.heap.size w5 w11 from SBw10.out.trans (hb.mono SBw10.out.size))
            have BAw11 := Lib.hid (BAw10.out.below hb)
            have BBw11 := Lib.hid (BBw10.out.below hb)
            clear hb
            go_simp
            refine hK _ _ (fun W => Below w5.heap.size w5 W) (fun W h => h) SBw11.out ?_
            clear hK K
            refine way_make rfl (by rfl) (fun K hK => ?_)
            refine wp_store8 (vs := hlc F) rfl rfl rfl BAw11.out HIF.out HNF.out HOF.out ?_
            intro w12 hbs hgs hss
            have SBw12 := Lib.hid (show Below w5.heap.size w5 w12 from bel_upd SBw11.out hgs (Nat.le_refl _) QBA.out)
            have BBw12 := Lib.hid (BBw11.out.kept hgs (by have := NN.out; omega))
            have BAw12 := Lib.hid hbs
            clear hbs hgs hss
            refine hK _ _ (fun W => Below w5.heap.size w5 W) (fun W h => h) SBw12.out ?_
            clear hK K
            refine way_make rfl (by rfl) (fun K hK => ?_)
            refine wp_store8 (vs := hlc G) rfl rfl rfl BBw12.out HIG.out HNG.out HOG.out ?_
            intro w13 hbs hgs hss
            have SBw13 := Lib.hid (show Below w5.heap.size w5 w13 from bel_upd SBw12.out hgs (Nat.le_refl _) QBB.out)
            have BAw13 := Lib.hid (BAw12.out.kept hgs (by have := NN.out; omega))
            have BBw13 := Lib.hid hbs
            clear hbs hgs hss
            refine hK _ _ (fun W => Below w5.heap.size w5 W) (fun W h => h) SBw13.out ?_
            clear hK K
            refine way_done ?_
            go_wp2_with fail
            go_meet
            exact ⟨_, _, rfl, rfl, BAw13.out, BBw13.out, SBw13.out⟩
        · skip
          go_simp
          have hbn : Below w7.heap.size w7 (w7.alloc (.cells #[.int .u64 0, .int .u64 0, .int .u64 0, .int .u64 0, .int .u64 0, .int .u64 0, .int .u64 0, .int .u64 0] 23)) := bel_new (Below.refl _ _) _
          have hpn := HZA.out w7
          have hqn : w5.heap.size ≤ w7.heap.size := SBw7.out.size
          generalize w7.alloc (.cells #[.int .u64 0, .int .u64 0, .int .u64 0, .int .u64 0, .int .u64 0, .int .u64 0, .int .u64 0, .int .u64 0] 23) = w8 at *
          have NBABB := BAw7.out.lt
          have SBw8 := Lib.hid (show Below w5.heap.size w5 w8 from SBw7.out.trans (hbn.mono SBw7.out.size))
          have BAw8 := Lib.hid (BAw7.out.below hbn)
          generalize w7.heap.size = qBB at *
          have BBw8 := Lib.hid hpn
          have QBB := Lib.hid hqn
          clear hbn hpn hqn
          have NN := Lib.hid NBABB
          clear NBABB
          refine hK _ _ (fun W => Below w5.heap.size w5 W) (fun W h => h) SBw8.out ?_
          clear hK K
          refine way_make rfl (by rfl) (fun K hK => ?_)
          go_simp
          ((with_reducible refine (HT.out w8).mono ?_))
          rintro e w9 ⟨rfl, hb⟩
          have SBw9 := Lib.hid (show Below w5.heap.size w5 w9 from SBw8.out.trans (hb.mono SBw8.out.size))
          have BAw9 := Lib.hid (BAw8.out.below hb)
          have BBw9 := Lib.hid (BBw8.out.below hb)
          clear hb
          go_simp
          refine hK _ _ (fun W => Below w5.heap.size w5 W) (fun W h => h) SBw9.out ?_
          clear hK K
          refine way_make rfl (by rfl) (fun K hK => ?_)
          go_simp
          ((with_reducible refine (K7.out w9).mono ?_))
          rintro e w10 ⟨rfl, hb⟩
          have SBw10 := Lib.hid (show Below w5.heap.size w5 w10 from SBw9.out.trans (hb.mono SBw9.out.size))
          have BAw10 := Lib.hid (BAw9.out.below hb)
          have BBw10 := Lib.hid (BBw9.out.below hb)
          clear hb
          go_simp
          refine hK _ _ (fun W => Below w5.heap.size w5 W) (fun W h => h) SBw10.out ?_
          clear hK K
          refine way_make rfl (by rfl) (fun K hK => ?_)
          go_simp
          ((with_reducible refine (K8.out w10).mono ?_))
          rintro e w11 ⟨rfl, hb⟩
          have SBw11 := Lib.hid (show Below w5.heap.size w5 w11 from SBw10.out.trans (hb.mono SBw10.out.size))
          have BAw11 := Lib.hid (BAw10.out.below hb)
          have BBw11 := Lib.hid (BBw10.out.below hb)
          clear hb
          go_simp
          refine hK _ _ (fun W => Below w5.heap.size w5 W) (fun W h => h) SBw11.out ?_
          clear hK K
          refine way_make rfl (by rfl) (fun K hK => ?_)
          refine wp_store8 (vs := hlc F) rfl rfl rfl BAw11.out HIF.out HNF.out HOF.out ?_
          intro w12 hbs hgs hss
          have SBw12 := Lib.hid (show Below w5.heap.size w5 w12 from bel_upd SBw11.out hgs (Nat.le_refl _) QBA.out)
          have BBw12 := Lib.hid (BBw11.out.kept hgs (by have := NN.out; omega))
          have BAw12 := Lib.hid hbs
          clear hbs hgs hss
          refine hK _ _ (fun W => Below w5.heap.size w5 W) (fun W h => h) SBw12.out ?_
          clear hK K
          refine way_make rfl (by rfl) (fun K hK => ?_)
          refine wp_store8 (vs := hlc G) rfl rfl rfl BBw12.out HIG.out HNG.out HOG.out ?_
          intro w13 hbs hgs hss
          have SBw13 := Lib.hid (show Below w5.heap.size w5 w13 from bel_upd SBw12.out hgs (Nat.le_refl _) QBB.out)
          have BAw13 := Lib.hid (BAw12.out.kept hgs (by have := NN.out; omega))
          have BBw13 := Lib.hid hbs
          clear hbs hgs hss
          refine hK _ _ (fun W => Below w5.heap.size w5 W) (fun W h => h) SBw13.out ?_
          clear hK K
          refine way_done ?_
          go_wp2_with fail
          go_meet
          exact ⟨_, _, rfl, rfl, BAw13.out, BBw13.out, SBw13.out⟩
      · skip
        go_simp
        have hbn : Below w6.heap.size w6 (w6.alloc (.cells #[.int .u64 0, .int .u64 0, .int .u64 0, .int .u64 0, .int .u64 0, .int .u64 0, .int .u64 0, .int .u64 0] 23)) := bel_new (Below.refl _ _) _
        have hpn := HZA.out w6
        have hqn : w5.heap.size ≤ w6.heap.size := SBw6.out.size
        generalize w6.alloc (.cells #[.int .u64 0, .int .u64 0, .int .u64 0, .int .u64 0, .int .u64 0, .int .u64 0, .int .u64 0, .int .u64 0] 23) = w7 at *
        have SBw7 := Lib.hid (show Below w5.heap.size w5 w7 from SBw6.out.trans (hbn.mono SBw6.out.size))
        generalize w6.heap.size = qBB at *
        have BBw7 := Lib.hid hpn
        have QBB := Lib.hid hqn
        clear hbn hpn hqn
        refine hK _ _ (fun W => Below w5.heap.size w5 W) (fun W h => h) SBw7.out ?_
        clear hK K
        refine way_both rfl (by rfl) rfl (by rfl) (fun K hK => ?_) (fun K hK => ?_) 
        · skip
          go_simp
          ((with_reducible refine (HT.out w7).mono ?_))
          rintro e w8 ⟨rfl, hb⟩
          have SBw8 := Lib.hid (show Below w5.heap.size w5 w8 from SBw7.out.trans (hb.mono SBw7.out.size))
          have BBw8 := Lib.hid (BBw7.out.below hb)
          clear hb
          go_simp
          refine hK _ _ (fun W => Below w5.heap.size w5 W) (fun W h => h) SBw8.out ?_
          clear hK K
          refine way_both rfl (by rfl) rfl (by rfl) (fun K hK => ?_) (fun K hK => ?_) 
          · skip
            go_simp
            ((with_reducible refine (K7.out w8).mono ?_))
            rintro e w9 ⟨rfl, hb⟩
            have SBw9 := Lib.hid (show Below w5.heap.size w5 w9 from SBw8.out.trans (hb.mono SBw8.out.size))
            have BBw9 := Lib.hid (BBw8.out.below hb)
            clear hb
            go_simp
            refine hK _ _ (fun W => Below w5.heap.size w5 W) (fun W h => h) SBw9.out ?_
            clear hK K
            refine way_both rfl (by rfl) rfl (by rfl) (fun K hK => ?_) (fun K hK => ?_) 
            · skip
              go_simp
              ((with_reducible refine (K8.out w9).mono ?_))
              rintro e w10 ⟨rfl, hb⟩
              have SBw10 := Lib.hid (show Below w5.heap.size w5 w10 from SBw9.out.trans (hb.mono SBw9.out.size))
              have BBw10 := Lib.hid (BBw9.out.below hb)
              clear hb
              go_simp
              refine hK _ _ (fun W => Below w5.heap.size w5 W) (fun W h => h) SBw10.out ?_
              clear hK K
              refine way_make rfl (by rfl) (fun K hK => ?_)
              go_simp
              have hbn : Below w10.heap.size w10 (w10.alloc (.cells #[.int .u64 0, .int .u64 0, .int .u64 0, .int .u64 0, .int .u64 0, .int .u64 0, .int .u64 0, .int .u64 0] 23)) := bel_new (Below.refl _ _) _
              have hpn := HZA.out w10
              have hqn : w5.heap.size ≤ w10.heap.size := SBw10.out.size
              generalize w10.alloc (.cells #[.int .u64 0, .int .u64 0, .int .u64 0, .int .u64 0, .int .u64 0, .int .u64 0, .int .u64 0, .int .u64 0] 23) = w11 at *
              have NBBBA := BBw10.out.lt
              have SBw11 := Lib.hid (show Below w5.heap.size w5 w11 from SBw10.out.trans (hbn.mono SBw10.out.size))
              have BBw11 := Lib.hid (BBw10.out.below hbn)
              generalize w10.heap.size = qBA at *
              have BAw11 := Lib.hid hpn
              have QBA := Lib.hid hqn
              clear hbn hpn hqn
              have NN := Lib.hid NBBBA
              clear NBBBA
              refine hK _ _ (fun W => Below w5.heap.size w5 W) (fun W h => h) SBw11.out ?_
              clear hK K
              refine way_make rfl (by rfl) (fun K hK => ?_)
              refine wp_store8 (vs := hlc F) rfl rfl rfl BAw11.out HIF.out HNF.out HOF.out ?_
              intro w12 hbs hgs hss
              have SBw12 := Lib.hid (show Below w5.heap.size w5 w12 from bel_upd SBw11.out hgs (Nat.le_refl _) QBA.out)
              have BBw12 := Lib.hid (BBw11.out.kept hgs (by have := NN.out; omega))
              have BAw12 := Lib.hid hbs
              clear hbs hgs hss
              refine hK _ _ (fun W => Below w5.heap.size w5 W) (fun W h => h) SBw12.out ?_
              clear hK K
              refine way_make rfl (by rfl) (fun K hK => ?_)
              refine wp_store8 (vs := hlc G) rfl rfl rfl BBw12.out HIG.out HNG.out HOG.out ?_
              intro w13 hbs hgs hss
              have SBw13 := Lib.hid (show Below w5.heap.size w5 w13 from bel_upd SBw12.out hgs (Nat.le_refl _) QBB.out)
              have BAw13 := Lib.hid (BAw12.out.kept hgs (by have := NN.out; omega))
              have BBw13 := Lib.hid hbs
              clear hbs hgs hss
              refine hK _ _ (fun W => Below w5.heap.size w5 W) (fun W h => h) SBw13.out ?_
              clear hK K
              refine way_done ?_
              go_wp2_with fail
              go_meet
              exact ⟨_, _, rfl, rfl, BAw13.out, BBw13.out, SBw13.out⟩
            · skip
              go_simp
              have hbn : Below w9.heap.size w9 (w9.alloc (.cells #[.int .u64 0, .int .u64 0, .int .u64 0, .int .u64 0, .int .u64 0, .int .u64 0, .int .u64 0, .int .u64 0] 23)) := bel_new (Below.refl _ _) _
              have hpn := HZA.out w9
              have hqn : w5.heap.size ≤ w9.heap.size := SBw9.out.size
              generalize w9.alloc (.cells #[.int .u64 0, .int .u64 0, .int .u64 0, .int .u64 0, .int .u64 0, .int .u64 0, .int .u64 0, .int .u64 0] 23) = w10 at *
              have NBBBA := BBw9.out.lt
              have SBw10 := Lib.hid (show Below w5.heap.size w5 w10 from SBw9.out.trans (hbn.mono SBw9.out.size))
              have BBw10 := Lib.hid (BBw9.out.below hbn)
              generalize w9.heap.size = qBA at *
              have BAw10 := Lib.hid hpn
              have QBA := Lib.hid hqn
              clear hbn hpn hqn
              have NN := Lib.hid NBBBA
              clear NBBBA
              refine hK _ _ (fun W => Below w5.heap.size w5 W) (fun W h => h) SBw10.out ?_
              clear hK K
              refine way_make rfl (by rfl) (fun K hK => ?_)
              go_simp
              ((with_reducible refine (K8.out w10).mono ?_))
              rintro e w11 ⟨rfl, hb⟩
              have SBw11 := Lib.hid (show Below w5.heap.size w5 w11 from SBw10.out.trans (hb.mono SBw10.out.size))
              have BBw11 := Lib.hid (BBw10.out.below hb)
              have BAw11 := Lib.hid (BAw10.out.below hb)
              clear hb
              go_simp
              refine hK _ _ (fun W => Below w5.heap.size w5 W) (fun W h => h) SBw11.out ?_
              clear hK K
              refine way_make rfl (by rfl) (fun K hK => ?_)
              refine wp_store8 (vs := hlc F) rfl rfl rfl BAw11.out HIF.out HNF.out HOF.out ?_
              intro w12 hbs hgs hss
              have SBw12 := Lib.hid (show Below w5.heap.size w5 w12 from bel_upd SBw11.out hgs (Nat.le_refl _) QBA.out)
              have BBw12 := Lib.hid (BBw11.out.kept hgs (by have := NN.out; omega))
              have BAw12 := Lib.hid hbs
              clear hbs hgs hss
              refine hK _ _ (fun W => Below w5.heap.size w5 W) (fun W h => h) SBw12.out ?_
              clear hK K
              refine way_make rfl (by rfl) (fun K hK => ?_)
              refine wp_store8 (vs := hlc G) rfl rfl rfl BBw12.out HIG.out HNG.out HOG.out ?_
              intro w13 hbs hgs hss
              have SBw13 := Lib.hid (show Below w5.heap.size w5 w13 from bel_upd SBw12.out hgs (Nat.le_refl _) QBB.out)
              have BAw13 := Lib.hid (BAw12.out.kept hgs (by have := NN.out; omega))
              have BBw13 := Lib.hid hbs
              clear hbs hgs hss
              refine hK _ _ (fun W => Below w5.heap.size w5 W) (fun W h => h) SBw13.out ?_
              clear hK K
              refine way_done ?_
              go_wp2_with fail
              go_meet
              exact ⟨_, _, rfl, rfl, BAw13.out, BBw13.out, SBw13.out⟩
          · skip
            go_simp
            have hbn : Below w8.heap.size w8 (w8.alloc (.cells #[.int .u64 0, .int .u64 0, .int .u64 0, .int .u64 0, .int .u64 0, .int .u64 0, .int .u64 0, .int .u64 0] 23)) := bel_new (Below.refl _ _) _
            have hpn := HZA.out w8
            have hqn : w5.heap.size ≤ w8.heap.size := SBw8.out.size
            generalize w8.alloc (.cells #[.int .u64 0, .int .u64 0, .int .u64 0, .int .u64 0, .int .u64 0, .int .u64 0, .int .u64 0, .int .u64 0] 23) = w9 at *
            have NBBBA := BBw8.out.lt
            have SBw9 := Lib.hid (show Below w5.heap.size w5 w9 from SBw8.out.trans (hbn.mono SBw8.out.size))
            have BBw9 := Lib.hid (BBw8.out.below hbn)
            generalize w8.heap.size = qBA at *
            have BAw9 := Lib.hid hpn
            have QBA := Lib.hid hqn
            clear hbn hpn hqn
            have NN := Lib.hid NBBBA
            clear NBBBA
            refine hK _ _ (fun W => Below w5.heap.size w5 W) (fun W h => h) SBw9.out ?_
            clear hK K
            refine way_make rfl (by rfl) (fun K hK => ?_)
            go_simp
            ((with_reducible refine (K7.out w9).mono ?_))
            rintro e w10 ⟨rfl, hb⟩
            have SBw10 := Lib.hid (show Below w5.heap.size w5 w10 from SBw9.out.trans (hb.mono SBw9.out.size))
            have BBw10 := Lib.hid (BBw9.out.below hb)
            have BAw10 := Lib.hid (BAw9.out.below hb)
            clear hb
            go_simp
            refine hK _ _ (fun W => Below w5.heap.size w5 W) (fun W h => h) SBw10.out ?_
            clear hK K
            refine way_make rfl (by rfl) (fun K hK => ?_)
            go_simp
            ((with_reducible refine (K8.out w10).mono ?_))
            rintro e w11 ⟨rfl, hb⟩
            have SBw11 := Lib.hid (show Below w5.heap.size w5 w11 from SBw10.out.trans (hb.mono SBw10.out.size))
            have BBw11 := Lib.hid (BBw10.out.below hb)
            have BAw11 := Lib.hid (BAw10.out.below hb)
            clear hb
            go_simp
            refine hK _ _ (fun W => Below w5.heap.size w5 W) (fun W h => h) SBw11.out ?_
            clear hK K
            refine way_make rfl (by rfl) (fun K hK => ?_)
            refine wp_store8 (vs := hlc F) rfl rfl rfl BAw11.out HIF.out HNF.out HOF.out ?_
            intro w12 hbs hgs hss
            have SBw12 := Lib.hid (show Below w5.heap.size w5 w12 from bel_upd SBw11.out hgs (Nat.le_refl _) QBA.out)
            have BBw12 := Lib.hid (BBw11.out.kept hgs (by have := NN.out; omega))
            have BAw12 := Lib.hid hbs
            clear hbs hgs hss
            refine hK _ _ (fun W => Below w5.heap.size w5 W) (fun W h => h) SBw12.out ?_
            clear hK K
            refine way_make rfl (by rfl) (fun K hK => ?_)
            refine wp_store8 (vs := hlc G) rfl rfl rfl BBw12.out HIG.out HNG.out HOG.out ?_
            intro w13 hbs hgs hss
            have SBw13 := Lib.hid (show Below w5.heap.size w5 w13 from bel_upd SBw12.out hgs (Nat.le_refl _) QBB.out)
            have BAw13 := Lib.hid (BAw12.out.kept hgs (by have := NN.out; omega))
            have BBw13 := Lib.hid hbs
            clear hbs hgs hss
            refine hK _ _ (fun W => Below w5.heap.size w5 W) (fun W h => h) SBw13.out ?_
            clear hK K
            refine way_done ?_
            go_wp2_with fail
            go_meet
            exact ⟨_, _, rfl, rfl, BAw13.out, BBw13.out, SBw13.out⟩
        · skip
          go_simp
          have hbn : Below w7.heap.size w7 (w7.alloc (.cells #[.int .u64 0, .int .u64 0, .int .u64 0, .int .u64 0, .int .u64 0, .int .u64 0, .int .u64 0, .int .u64 0] 23)) := bel_new (Below.refl _ _) _
          have hpn := HZA.out w7
          have hqn : w5.heap.size ≤ w7.heap.size := SBw7.out.size
          generalize w7.alloc (.cells #[.int .u64 0, .int .u64 0, .int .u64 0, .int .u64 0, .int .u64 0, .int .u64 0, .int .u64 0, .int .u64 0] 23) = w8 at *
          have NBBBA := BBw7.out.lt
          have SBw8 := Lib.hid (show Below w5.heap.size w5 w8 from SBw7.out.trans (hbn.mono SBw7.out.size))
          have BBw8 := Lib.hid (BBw7.out.below hbn)
          generalize w7.heap.size = qBA at *
          have BAw8 := Lib.hid hpn
          have QBA := Lib.hid hqn
          clear hbn hpn hqn
          have NN := Lib.hid NBBBA
          clear NBBBA
          refine hK _ _ (fun W => Below w5.heap.size w5 W) (fun W h => h) SBw8.out ?_
          clear hK K
          refine way_make rfl (by rfl) (fun K hK => ?_)
          go_simp
          ((with_reducible refine (HT.out w8).mono ?_))
          rintro e w9 ⟨rfl, hb⟩
          have SBw9 := Lib.hid (show Below w5.heap.size w5 w9 from SBw8.out.trans (hb.mono SBw8.out.size))
          have BBw9 := Lib.hid (BBw8.out.below hb)
          have BAw9 := Lib.hid (BAw8.out.below hb)
          clear hb
          go_simp
          refine hK _ _ (fun W => Below w5.heap.size w5 W) (fun W h => h) SBw9.out ?_
          clear hK K
          refine way_make rfl (by rfl) (fun K hK => ?_)
          go_simp
          ((with_reducible refine (K7.out w9).mono ?_))
          rintro e w10 ⟨rfl, hb⟩
          have SBw10 := Lib.hid (show Below w5.heap.size w5 w10 from SBw9.out.trans (hb.mono SBw9.out.size))
          have BBw10 := Lib.hid (BBw9.out.below hb)
          have BAw10 := Lib.hid (BAw9.out.below hb)
          clear hb
          go_simp
          refine hK _ _ (fun W => Below w5.heap.size w5 W) (fun W h => h) SBw10.out ?_
          clear hK K
          refine way_make rfl (by rfl) (fun K hK => ?_)
          go_simp
          ((with_reducible refine (K8.out w10).mono ?_))
          rintro e w11 ⟨rfl, hb⟩
          have SBw11 := Lib.hid (show Below w5.heap.size w5 w11 from SBw10.out.trans (hb.mono SBw10.out.size))
          have BBw11 := Lib.hid (BBw10.out.below hb)
          have BAw11 := Lib.hid (BAw10.out.below hb)
          clear hb
          go_simp
          refine hK _ _ (fun W => Below w5.heap.size w5 W) (fun W h => h) SBw11.out ?_
          clear hK K
          refine way_make rfl (by rfl) (fun K hK => ?_)
          refine wp_store8 (vs := hlc F) rfl rfl rfl BAw11.out HIF.out HNF.out HOF.out ?_
          intro w12 hbs hgs hss
          have SBw12 := Lib.hid (show Below w5.heap.size w5 w12 from bel_upd SBw11.out hgs (Nat.le_refl _) QBA.out)
          have BBw12 := Lib.hid (BBw11.out.kept hgs (by have := NN.out; omega))
          have BAw12 := Lib.hid hbs
          clear hbs hgs hss
          refine hK _ _ (fun W => Below w5.heap.size w5 W) (fun W h => h) SBw12.out ?_
          clear hK K
          refine way_make rfl (by rfl) (fun K hK => ?_)
          refine wp_store8 (vs := hlc G) rfl rfl rfl BBw12.out HIG.out HNG.out HOG.out ?_
          intro w13 hbs hgs hss
          have SBw13 := Lib.hid (show Below w5.heap.size w5 w13 from bel_upd SBw12.out hgs (Nat.le_refl _) QBB.out)
          have BAw13 := Lib.hid (BAw12.out.kept hgs (by have := NN.out; omega))
          have BBw13 := Lib.hid hbs
          clear hbs hgs hss
          refine hK _ _ (fun W => Below w5.heap.size w5 W) (fun W h => h) SBw13.out ?_
          clear hK K
          refine way_done ?_
          go_wp2_with fail
          go_meet
          exact ⟨_, _, rfl, rfl, BAw13.out, BBw13.out, SBw13.out⟩
    case rest =>
      obtain ⟨qa, qb, rfl, rfl, hba, hbb, hbl⟩ := hcut
      generalize wc = w207 at *
      have hb9 : Below w5.heap.size w5 w207 := hbl
      have HBw207 := Lib.hid (HBw5.out.below hb9)
      have HXw207 := Lib.hid (HXw5.out.below hb9)
      have HLw207 := Lib.hid (HLw5.out.trans (hb9.mono HLw5.out.size))
      clear hb9 HBw5 HXw5 HLw5
      have HFFw207 := Lib.hid hba
      have HGGGw207 := Lib.hid hbb
      clear hba hbb hbl
      go_wp2_with fail
      go_loopw [29] (fun t W => ∃ i : Nat, i ≤ 8 ∧ t = .int .i64 (i : Int) ∧ Blk W qa 23 (hlc F) ∧ Blk W qb 23 (hlc G) ∧ Below w.heap.size w W) (fun t W => 8 - (intOf t).toNat)
      case atStart => exact ⟨0, by omega, rfl, HFFw207.out, HGGGw207.out, HLw207.out⟩
      case round =>
        obtain ⟨i, hi, rfl, hba, hbb, hbl⟩ := hrel
        have HAr := Lib.hid hba
        have HBr := Lib.hid hbb
        have HLr := Lib.hid hbl
        clear hba hbb hbl
        by_cases hi8 : i < 8
        · have i1 : (i : Int) < 8 := by omega
          have gf := HGF.out i hi8
          have gg := HGG.out i hi8
          have hfr := HFREE2.out i hi8
          have hg := HGE2.out i hi8
          have hbf := HBF.out.1 i
          have hcp := HBF.out.2
          obtain ⟨f, hf⟩ : ∃ f, F.getD i 0 = f := ⟨_, rfl⟩
          obtain ⟨k, hk⟩ : ∃ k, G.getD i 0 = k := ⟨_, rfl⟩
          rw [hf] at gf hfr hg hbf
          rw [hk] at gg hfr
          have HI8 := Lib.hid hi8
          have c1 : wr.drew.cell? ⟨qa, i, none⟩ = some (.int .u64 (f : Int)) := (HAr.out.cell _).trans gf
          have c0 : wr.drew.cell? ⟨qb, i, none⟩ = some (.int .u64 (k : Int)) := (HBr.out.cell _).trans gg
          have HC := Lib.hid (And.intro c1 c0)
          by_cases hip : (i : Int) < p
          · rw [if_pos hip] at hfr
            subst hfr
            have hne : ((k : Int) != (k : Int)) = false := by simp
            have hnp : decide (p ≤ (i : Int)) = false := decide_eq_false (by omega)
            clear gf gg hg hbf hcp hf hk hi8 hi c1 c0
            go_wp2_with fail
            refine region_seq (fun W => W.cell? ⟨qa, i, none⟩ = some (.int .u64 (k : Int)) ∧ W.cell? ⟨qb, i, none⟩ = some (.int .u64 (k : Int))) [(0, true), (1, true), (2, true), (3, true), (4, true), (5, true), (6, true), (7, true), (8, true), (9, true), (10, true), (11, true), (12, true), (13, true), (14, true), (15, true), (16, true), (17, true), (18, true), (19, true), (20, true), (21, true), (22, true), (23, true), (24, true), (25, true), (26, true), (27, true)]
              (by kernel_rfl) (by kernel_rfl) (by kernel_rfl) (by kernel_rfl) (fun _ _ _ _ _ h => h) HC.out ?_
            repeat first
              | refine seq_pure (v := ?_) rfl (by rfl) (fun W hW => ?_) ?_
                rotate_left
                · obtain ⟨c1, c0⟩ := hW
                  go_simp
                  with_reducible rfl
                simp only [Act.put, List.setIfInBounds_toArray, List.set_cons_zero, List.set_cons_succ]
              | refine seq_skip rfl (by rfl) ?_
                simp only [Act.put, List.setIfInBounds_toArray, List.set_cons_zero, List.set_cons_succ]
            refine seq_done ?_
            go_wp2_with fail
            go_roundw
            case rel => exact ⟨i + 1, by have := HI8.out; omega, by first | rfl | (simp; omega), HAr.out, HBr.out, HLr.out.drew⟩
            case measure => have := HI8.out; simp [intOf]; omega
          · rw [if_neg hip] at hfr
            have hwr : IntKind.u64.wrap ((f : Int) - (b : Int)) = (k : Int) := by rw [IntKind.wrap_u64]; omega
            have hne : ((k : Int) != (k : Int)) = false := by simp
            have hnp : decide (p ≤ (i : Int)) = true := decide_eq_true (by omega)
            have hnq : decide ((i : Int) < p) = false := decide_eq_false (by omega)
            clear hip
            clear hfr
            clear gf gg hg hbf hcp hf hk hi8 hi c1 c0
            go_wp2_with fail
            refine region_seq (fun W => W.cell? ⟨qa, i, none⟩ = some (.int .u64 (f : Int)) ∧ W.cell? ⟨qb, i, none⟩ = some (.int .u64 (k : Int))) [(0, true), (1, true), (2, true), (3, true), (4, true), (5, true), (6, true), (7, true), (8, true), (9, true), (10, true), (11, true), (12, true), (13, true), (14, true), (15, true), (16, true), (17, true), (18, true), (19, true), (20, true), (21, true), (22, true), (23, true), (24, true), (25, true), (26, true), (27, true)]
              (by kernel_rfl) (by kernel_rfl) (by kernel_rfl) (by kernel_rfl) (fun _ _ _ _ _ h => h) HC.out ?_
            repeat first
              | refine seq_pure (v := ?_) rfl (by rfl) (fun W hW => ?_) ?_
                rotate_left
                · obtain ⟨c1, c0⟩ := hW
                  go_simp
                  with_reducible rfl
                simp only [Act.put, List.setIfInBounds_toArray, List.set_cons_zero, List.set_cons_succ]
              | refine seq_skip rfl (by rfl) ?_
                simp only [Act.put, List.setIfInBounds_toArray, List.set_cons_zero, List.set_cons_succ]
            refine seq_done ?_
            go_wp2_with fail
            go_roundw
            case rel => exact ⟨i + 1, by have := HI8.out; omega, by first | rfl | (simp; omega), HAr.out, HBr.out, HLr.out.drew⟩
            case measure => have := HI8.out; simp [intOf]; omega
        · obtain rfl : i = 8 := by omega
          have i1 : ¬ ((8 : Nat) : Int) < 8 := by omega
          go_wp2_with fail
          go_ret
          exact ⟨rfl, HLr.out⟩
  · have hE2 : (E != 0) = true := by simpa using hE
    clear hE
    go_wp2_with fail
    go_ret
    exact ⟨rfl, HLw5.out⟩
end Go.Proofs.Ytpnjjeplgkaaoaa
