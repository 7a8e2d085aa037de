/-
  The law LedgerEither, walked, under what the code must keep: the answer is true, and nothing that was there has turned. Condition: numbers of 64 bits.
-/
import Derived.Test.YtpnjjeplgkaaoaaLedgerRightW
namespace Go.Proofs.Ytpnjjeplgkaaoaa
set_option maxRecDepth 100000
set_option linter.unusedVariables false
open Go.RowKit

/-- A whole struct, read in a region whose order is drawn, in ways. -/
theorem way_load8 {P : Program} {ops : Array Oper} {Q : Exit → Act → World → Prop} {S : World → Prop} {i : Nat} {r : Way} {a : Act} {w : World} {o : Oper} {x : Operand} {ty t : TypeId} {g : Nat} {vs : List Value} {d : TypeDesc}
    (ho : ops.toList[i]? = some o) (hw : Region.wanted o (yielded ops a.tmps) = true) (hop : o.op = .load ty x) (hx : a.eval x = .pointer (some ⟨g, 0, none⟩)) (hb : ∀ W, S W → Blk W g t vs) (hu : P.underlying ty = some d) (hd : d.isRow = true) (hi : (P.info? ty).map (·.size) = some vs.length)
    (h : wpWay P ops Q S r (a.put o.dst (.agg vs.toArray)) w) : wpWay P ops Q S (.step i true r) a w :=
  ⟨o, _, by rw [← Array.getElem?_toList]; exact ho, yieldsIf_load_mid hw ty x hop g 0 hx vs d (fun W hW => (hb W hW).range) hu hd hi, h⟩

set_option maxHeartbeats 6400000 in
theorem leither_walk (h1 : AddOk13) (h2 : RightOk13) (h3 : FreeOk13) (h4 : PutOk13) (l : Lg) (hl : LgOk l) (x : Ac13) (hx : Ac13Ok x) (y : Ac13) (hy : Ac13Ok y) (w : World) : Calls Try.prog 9 #[.agg (lgc l).toArray, .agg #[.bool x.tk, .int .i64 x.p, .int .u64 (x.bw : Int)], .agg #[.bool y.tk, .int .i64 y.p, .int .u64 (y.bw : Int)]] w fun e w' => e = .returned (.bool true) ∧ Below w.heap.size w w' := by
  obtain ⟨xt, p, a⟩ := x
  obtain ⟨yt, q, b⟩ := y
  obtain ⟨hp, ha⟩ := hx
  obtain ⟨hq, hb⟩ := hy
  simp only at hp ha hq hb ⊢
  have okX := lPut_ok hl p a
  have okU := lPut_ok hl q b
  have okY := lPut_ok okX q b
  have okV := lPut_ok okU p a
  have k1 := h4 l hl p hp.1 hp.2 a ha
  have k3 := h4 l hl q hq.1 hq.2 b hb
  have k2 := h4 _ okX q hq.1 hq.2 b hb
  have k4 := h4 _ okU p hp.1 hp.2 a ha
  unfold Lgn13 at k1 k2 k3 k4
  have he := put_either hl p q a b
  have hs := fun g1 g2 => put_swap hl (p := p) (q := q) (a := a) (b := b) g1 g2
  obtain ⟨Y, hY⟩ : ∃ Y, (lPut (lPut l p a).1 q b).1 = Y := ⟨_, rfl⟩
  obtain ⟨F, hF⟩ : ∃ F, (lPut (lPut l p a).1 q b).2 = F := ⟨_, rfl⟩
  obtain ⟨V, hV⟩ : ∃ V, (lPut (lPut l q b).1 p a).1 = V := ⟨_, rfl⟩
  obtain ⟨H, hH⟩ : ∃ H, (lPut (lPut l q b).1 p a).2 = H := ⟨_, rfl⟩
  rw [hY] at okY k2 hs
  rw [hF] at k2 he hs
  rw [hV] at okV k4 hs
  rw [hH] at k4 he
  obtain ⟨X, hX⟩ : ∃ X, (lPut l p a).1 = X := ⟨_, rfl⟩
  obtain ⟨E, hE⟩ : ∃ E, (lPut l p a).2 = E := ⟨_, rfl⟩
  obtain ⟨U, hU⟩ : ∃ U, (lPut l q b).1 = U := ⟨_, rfl⟩
  obtain ⟨G, hG⟩ : ∃ G, (lPut l q b).2 = G := ⟨_, rfl⟩
  rw [hX] at okX k1 k2
  rw [hE] at k1 he hs
  rw [hU] at okU k3 k4
  rw [hG] at k3 he
  have HA := Lib.hid (fun W => alive13_calls h1 h2 h3 h4 W)
  have HT := Lib.hid (fun W => theirs13_calls l hl W)
  have HOY := Lib.hid (fun W => ours13_calls Y okY W)
  have HOV := Lib.hid (fun W => ours13_calls V okV W)
  unfold Agg13 at HT HOY HOV
  have K1 := Lib.hid k1
  have K2 := Lib.hid k2
  have K3 := Lib.hid k3
  have K4 := Lib.hid k4
  have HE := Lib.hid he
  have HS := Lib.hid hs
  have HOKY := Lib.hid okY
  have HIl := Lib.hid (infoLedg9R l hl)
  have HJl := Lib.hid (infoLedg9 l hl)
  have HOl := Lib.hid (lgc_one l)
  have HNl := Lib.hid (show ([.int .u64 0, .int .u64 0, .int .u64 0, .int .u64 0, .int .u64 0, .int .u64 0, .int .u64 0, .int .u64 0, .int .u64 0] : List Value).length = (lgc l).length by rw [lgc_length hl]; rfl)
  have HIX := Lib.hid (infoLedg9R X okX)
  have HJX := Lib.hid (infoLedg9 X okX)
  have HCX := Lib.hid (lgc_one X)
  have HNX := Lib.hid (show ([.int .u64 0, .int .u64 0, .int .u64 0, .int .u64 0, .int .u64 0, .int .u64 0, .int .u64 0, .int .u64 0, .int .u64 0] : List Value).length = (lgc X).length by rw [lgc_length okX]; rfl)
  have HIU := Lib.hid (infoLedg9R U okU)
  have HJU := Lib.hid (infoLedg9 U okU)
  have HCU := Lib.hid (lgc_one U)
  have HNU := Lib.hid (show ([.int .u64 0, .int .u64 0, .int .u64 0, .int .u64 0, .int .u64 0, .int .u64 0, .int .u64 0, .int .u64 0, .int .u64 0] : List Value).length = (lgc U).length by rw [lgc_length okU]; rfl)
  have HIY := Lib.hid (infoLedg9R Y okY)
  have HJY := Lib.hid (infoLedg9 Y okY)
  have HCY := Lib.hid (lgc_one Y)
  have HNY := Lib.hid (show ([.int .u64 0, .int .u64 0, .int .u64 0, .int .u64 0, .int .u64 0, .int .u64 0, .int .u64 0, .int .u64 0, .int .u64 0] : List Value).length = (lgc Y).length by rw [lgc_length okY]; rfl)
  have HIV := Lib.hid (infoLedg9R V okV)
  have HJV := Lib.hid (infoLedg9 V okV)
  have HCV := Lib.hid (lgc_one V)
  have HNV := Lib.hid (show ([.int .u64 0, .int .u64 0, .int .u64 0, .int .u64 0, .int .u64 0, .int .u64 0, .int .u64 0, .int .u64 0, .int .u64 0] : List Value).length = (lgc V).length by rw [lgc_length okV]; rfl)
  have HZL := Lib.hid (fun W : World => (show Blk (W.alloc (.cells #[.int .u64 0, .int .u64 0, .int .u64 0, .int .u64 0, .int .u64 0, .int .u64 0, .int .u64 0, .int .u64 0, .int .u64 0] 30)) W.heap.size 30 [.int .u64 0, .int .u64 0, .int .u64 0, .int .u64 0, .int .u64 0, .int .u64 0, .int .u64 0, .int .u64 0, .int .u64 0] from Blk.new W _ _))
  clear h1 h2 h3 h4 hX hE hU hG hY hF hV hH he hs k1 k2 k3 k4 hl okX okU okY okV ha hb hp hq
  go_enter Try.func9, Try.ntmps9
  go_wp2_with fail
  obtain ⟨b0, b1, b2, bl⟩ := alloc3 w (lgc l) [.bool xt, .int .i64 p, .int .u64 (a : Int)] [.bool yt, .int .i64 q, .int .u64 (b : Int)] 25 47 47
  have HBw1 := Lib.hid b0
  have HPw1 := Lib.hid (show Blk _ (w.heap.size + 1) _ _ from b1)
  have HQw1 := Lib.hid (show Blk _ (w.heap.size + 1 + 1) _ _ from b2)
  have HLw1 := Lib.hid bl
  clear b0 b1 b2 bl
  generalize (((w.alloc (.cells (lgc l).toArray 25)).alloc (.cells #[.bool xt, .int .i64 p, .int .u64 (a : Int)] 47)).alloc (.cells #[.bool yt, .int .i64 q, .int .u64 (b : Int)] 47)) = w1 at *
  ((with_reducible refine (HA.out w1).mono ?_))
  rintro e w2 ⟨rfl, hb⟩
  have hb9 : Below w1.heap.size w1 w2 := hb
  have HBw2 := Lib.hid (HBw1.out.below hb9)
  have HPw2 := Lib.hid (HPw1.out.below hb9)
  have HQw2 := Lib.hid (HQw1.out.below hb9)
  have HLw2 := Lib.hid (HLw1.out.trans (hb9.mono HLw1.out.size))
  clear hb9 HBw1 HPw1 HQw1 HLw1
  clear hb
  go_upto_region 3 with fail
  go_cut [7, 8] from 17 to 26 (fun s t W => ∃ q9 : Nat, s = Value.pointer (some ⟨q9, 0, none⟩) ∧ t = Value.int .i64 E ∧ Blk W q9 30 (lgc X) ∧ Below w2.heap.size w2 W)
  case first =>
    refine region_way (fun W => Below w2.heap.size w2 W) (.step 0 true (.step 2 true (.step 3 true (.step 4 true (.step 5 true (.both 1 10 (.both 6 10 (.step 7 true (.step 8 true (.step 9 true (.step 10 false (.step 11 false (.step 12 true .done)))))) (.step 6 false (.step 7 true (.step 8 true (.step 9 true (.step 11 false (.step 12 true .done))))))) (.step 1 false (.step 6 false (.step 7 true (.step 8 true (.step 9 true (.step 11 false (.step 12 true .done)))))))))))))
      (by kernel_rfl) (by kernel_rfl) (by kernel_rfl) (by kernel_rfl) (fun _ _ _ _ _ h => h) (Below.refl _ _).drew ?_
    repeat first
      | refine way_load8 (x := .tmp 3) rfl (by rfl) rfl rfl (fun W hW => HBw2.out.below hW) Try.underlying25 rfl HIl.out ?_
        simp only [Act.put, List.setIfInBounds_toArray, List.set_cons_zero, List.set_cons_succ]
      | refine way_pure (v := ?_) rfl (by rfl) (fun W hW => ?_) ?_
        rotate_left
        · have d1 : W.cell? ⟨w.heap.size + 1, 1, none⟩ = some (.int .i64 p) := (HPw2.out.below hW).cell 1; have d2 : W.cell? ⟨w.heap.size + 1, 2, none⟩ = some (.int .u64 (a : Int)) := (HPw2.out.below hW).cell 2; clear hW
          go_simp
          with_reducible rfl
        simp only [Act.put, List.setIfInBounds_toArray, List.set_cons_zero, List.set_cons_succ]
    have hbd : Below w2.heap.size w2 w2.drew := (Below.refl _ _).drew
    generalize w2.drew = w3 at hbd ⊢
    have SBw3 := Lib.hid hbd
    clear hbd
    refine way_both rfl (by rfl) rfl (by rfl) (fun K hK => ?_) (fun K hK => ?_) 
    · skip
      go_simp
      ((with_reducible refine (HT.out w3).mono ?_))
      rintro e w4 ⟨rfl, hb⟩
      have SBw4 := Lib.hid (show Below w2.heap.size w2 w4 from SBw3.out.trans (hb.mono SBw3.out.size))
      clear hb
      go_simp
      refine hK _ _ (fun W => Below w2.heap.size w2 W) (fun W h => h) SBw4.out ?_
      clear hK K
      refine way_both rfl (by rfl) rfl (by rfl) (fun K hK => ?_) (fun K hK => ?_) 
      · skip
        go_simp
        ((with_reducible refine (K1.out w4).mono ?_))
        rintro e w5 ⟨rfl, hb⟩
        have SBw5 := Lib.hid (show Below w2.heap.size w2 w5 from SBw4.out.trans (hb.mono SBw4.out.size))
        clear hb
        go_simp
        refine hK _ _ (fun W => Below w2.heap.size w2 W) (fun W h => h) SBw5.out ?_
        clear hK K
        repeat first
          | refine way_load8 (x := .tmp 3) rfl (by rfl) rfl rfl (fun W hW => HBw2.out.below hW) Try.underlying25 rfl HIl.out ?_
            simp only [Act.put, List.setIfInBounds_toArray, List.set_cons_zero, List.set_cons_succ]
          | refine way_pure (v := ?_) rfl (by rfl) (fun W hW => ?_) ?_
            rotate_left
            · have d1 : W.cell? ⟨w.heap.size + 1, 1, none⟩ = some (.int .i64 p) := (HPw2.out.below hW).cell 1; have d2 : W.cell? ⟨w.heap.size + 1, 2, none⟩ = some (.int .u64 (a : Int)) := (HPw2.out.below hW).cell 2; clear hW
              go_simp
              with_reducible rfl
            simp only [Act.put, List.setIfInBounds_toArray, List.set_cons_zero, List.set_cons_succ]
        refine way_make rfl (by rfl) (fun K hK => ?_)
        go_simp
        have hbn : Below w5.heap.size w5 (w5.alloc (.cells #[.int .u64 0, .int .u64 0, .int .u64 0, .int .u64 0, .int .u64 0, .int .u64 0, .int .u64 0, .int .u64 0, .int .u64 0] 30)) := bel_new (Below.refl _ _) _
        have hpn := HZL.out w5
        have hqn : w2.heap.size ≤ w5.heap.size := SBw5.out.size
        generalize w5.alloc (.cells #[.int .u64 0, .int .u64 0, .int .u64 0, .int .u64 0, .int .u64 0, .int .u64 0, .int .u64 0, .int .u64 0, .int .u64 0] 30) = w6 at *
        have SBw6 := Lib.hid (show Below w2.heap.size w2 w6 from SBw5.out.trans (hbn.mono SBw5.out.size))
        generalize w5.heap.size = qBX at *
        have BXw6 := Lib.hid hpn
        have QBX := Lib.hid hqn
        clear hbn hpn hqn
        refine hK _ _ (fun W => Below w2.heap.size w2 W) (fun W h => h) SBw6.out ?_
        clear hK K
        refine way_make rfl (by rfl) (fun K hK => ?_)
        refine wp_store8 (vs := lgc X) rfl rfl rfl BXw6.out HJX.out HNX.out HCX.out ?_
        intro w7 hbs hgs hss
        have SBw7 := Lib.hid (show Below w2.heap.size w2 w7 from bel_upd SBw6.out hgs (Nat.le_refl _) QBX.out)
        have BXw7 := Lib.hid hbs
        clear hbs hgs hss
        refine hK _ _ (fun W => Below w2.heap.size w2 W) (fun W h => h) SBw7.out ?_
        clear hK K
        repeat first
          | refine way_load8 (x := .tmp 3) rfl (by rfl) rfl rfl (fun W hW => HBw2.out.below hW) Try.underlying25 rfl HIl.out ?_
            simp only [Act.put, List.setIfInBounds_toArray, List.set_cons_zero, List.set_cons_succ]
          | refine way_pure (v := ?_) rfl (by rfl) (fun W hW => ?_) ?_
            rotate_left
            · have d1 : W.cell? ⟨w.heap.size + 1, 1, none⟩ = some (.int .i64 p) := (HPw2.out.below hW).cell 1; have d2 : W.cell? ⟨w.heap.size + 1, 2, none⟩ = some (.int .u64 (a : Int)) := (HPw2.out.below hW).cell 2; clear hW
              go_simp
              with_reducible rfl
            simp only [Act.put, List.setIfInBounds_toArray, List.set_cons_zero, List.set_cons_succ]
        refine way_done ?_
        go_wp2_with fail
        go_meet
        exact ⟨_, rfl, rfl, BXw7.out, SBw7.out⟩
      · skip
        go_simp
        have hbn : Below w4.heap.size w4 (w4.alloc (.cells #[.int .u64 0, .int .u64 0, .int .u64 0, .int .u64 0, .int .u64 0, .int .u64 0, .int .u64 0, .int .u64 0, .int .u64 0] 30)) := bel_new (Below.refl _ _) _
        have hpn := HZL.out w4
        have hqn : w2.heap.size ≤ w4.heap.size := SBw4.out.size
        generalize w4.alloc (.cells #[.int .u64 0, .int .u64 0, .int .u64 0, .int .u64 0, .int .u64 0, .int .u64 0, .int .u64 0, .int .u64 0, .int .u64 0] 30) = w5 at *
        have SBw5 := Lib.hid (show Below w2.heap.size w2 w5 from SBw4.out.trans (hbn.mono SBw4.out.size))
        generalize w4.heap.size = qBX at *
        have BXw5 := Lib.hid hpn
        have QBX := Lib.hid hqn
        clear hbn hpn hqn
        refine hK _ _ (fun W => Below w2.heap.size w2 W) (fun W h => h) SBw5.out ?_
        clear hK K
        refine way_make rfl (by rfl) (fun K hK => ?_)
        go_simp
        ((with_reducible refine (K1.out w5).mono ?_))
        rintro e w6 ⟨rfl, hb⟩
        have SBw6 := Lib.hid (show Below w2.heap.size w2 w6 from SBw5.out.trans (hb.mono SBw5.out.size))
        have BXw6 := Lib.hid (BXw5.out.below hb)
        clear hb
        go_simp
        refine hK _ _ (fun W => Below w2.heap.size w2 W) (fun W h => h) SBw6.out ?_
        clear hK K
        repeat first
          | refine way_load8 (x := .tmp 3) rfl (by rfl) rfl rfl (fun W hW => HBw2.out.below hW) Try.underlying25 rfl HIl.out ?_
            simp only [Act.put, List.setIfInBounds_toArray, List.set_cons_zero, List.set_cons_succ]
          | refine way_pure (v := ?_) rfl (by rfl) (fun W hW => ?_) ?_
            rotate_left
            · have d1 : W.cell? ⟨w.heap.size + 1, 1, none⟩ = some (.int .i64 p) := (HPw2.out.below hW).cell 1; have d2 : W.cell? ⟨w.heap.size + 1, 2, none⟩ = some (.int .u64 (a : Int)) := (HPw2.out.below hW).cell 2; clear hW
              go_simp
              with_reducible rfl
            simp only [Act.put, List.setIfInBounds_toArray, List.set_cons_zero, List.set_cons_succ]
        refine way_make rfl (by rfl) (fun K hK => ?_)
        refine wp_store8 (vs := lgc X) rfl rfl rfl BXw6.out HJX.out HNX.out HCX.out ?_
        intro w7 hbs hgs hss
        have SBw7 := Lib.hid (show Below w2.heap.size w2 w7 from bel_upd SBw6.out hgs (Nat.le_refl _) QBX.out)
        have BXw7 := Lib.hid hbs
        clear hbs hgs hss
        refine hK _ _ (fun W => Below w2.heap.size w2 W) (fun W h => h) SBw7.out ?_
        clear hK K
        repeat first
          | refine way_load8 (x := .tmp 3) rfl (by rfl) rfl rfl (fun W hW => HBw2.out.below hW) Try.underlying25 rfl HIl.out ?_
            simp only [Act.put, List.setIfInBounds_toArray, List.set_cons_zero, List.set_cons_succ]
          | refine way_pure (v := ?_) rfl (by rfl) (fun W hW => ?_) ?_
            rotate_left
            · have d1 : W.cell? ⟨w.heap.size + 1, 1, none⟩ = some (.int .i64 p) := (HPw2.out.below hW).cell 1; have d2 : W.cell? ⟨w.heap.size + 1, 2, none⟩ = some (.int .u64 (a : Int)) := (HPw2.out.below hW).cell 2; clear hW
              go_simp
              with_reducible rfl
            simp only [Act.put, List.setIfInBounds_toArray, List.set_cons_zero, List.set_cons_succ]
        refine way_done ?_
        go_wp2_with fail
        go_meet
        exact ⟨_, rfl, rfl, BXw7.out, SBw7.out⟩
    · skip
      go_simp
      have hbn : Below w3.heap.size w3 (w3.alloc (.cells #[.int .u64 0, .int .u64 0, .int .u64 0, .int .u64 0, .int .u64 0, .int .u64 0, .int .u64 0, .int .u64 0, .int .u64 0] 30)) := bel_new (Below.refl _ _) _
      have hpn := HZL.out w3
      have hqn : w2.heap.size ≤ w3.heap.size := SBw3.out.size
      generalize w3.alloc (.cells #[.int .u64 0, .int .u64 0, .int .u64 0, .int .u64 0, .int .u64 0, .int .u64 0, .int .u64 0, .int .u64 0, .int .u64 0] 30) = w4 at *
      have SBw4 := Lib.hid (show Below w2.heap.size w2 w4 from SBw3.out.trans (hbn.mono SBw3.out.size))
      generalize w3.heap.size = qBX at *
      have BXw4 := Lib.hid hpn
      have QBX := Lib.hid hqn
      clear hbn hpn hqn
      refine hK _ _ (fun W => Below w2.heap.size w2 W) (fun W h => h) SBw4.out ?_
      clear hK K
      refine way_make rfl (by rfl) (fun K hK => ?_)
      go_simp
      ((with_reducible refine (HT.out w4).mono ?_))
      rintro e w5 ⟨rfl, hb⟩
      have SBw5 := Lib.hid (show Below w2.heap.size w2 w5 from SBw4.out.trans (hb.mono SBw4.out.size))
      have BXw5 := Lib.hid (BXw4.out.below hb)
      clear hb
      go_simp
      refine hK _ _ (fun W => Below w2.heap.size w2 W) (fun W h => h) SBw5.out ?_
      clear hK K
      refine way_make rfl (by rfl) (fun K hK => ?_)
      go_simp
      ((with_reducible refine (K1.out w5).mono ?_))
      rintro e w6 ⟨rfl, hb⟩
      have SBw6 := Lib.hid (show Below w2.heap.size w2 w6 from SBw5.out.trans (hb.mono SBw5.out.size))
      have BXw6 := Lib.hid (BXw5.out.below hb)
      clear hb
      go_simp
      refine hK _ _ (fun W => Below w2.heap.size w2 W) (fun W h => h) SBw6.out ?_
      clear hK K
      repeat first
        | refine way_load8 (x := .tmp 3) rfl (by rfl) rfl rfl (fun W hW => HBw2.out.below hW) Try.underlying25 rfl HIl.out ?_
          simp only [Act.put, List.setIfInBounds_toArray, List.set_cons_zero, List.set_cons_succ]
        | refine way_pure (v := ?_) rfl (by rfl) (fun W hW => ?_) ?_
          rotate_left
          · have d1 : W.cell? ⟨w.heap.size + 1, 1, none⟩ = some (.int .i64 p) := (HPw2.out.below hW).cell 1; have d2 : W.cell? ⟨w.heap.size + 1, 2, none⟩ = some (.int .u64 (a : Int)) := (HPw2.out.below hW).cell 2; clear hW
            go_simp
            with_reducible rfl
          simp only [Act.put, List.setIfInBounds_toArray, List.set_cons_zero, List.set_cons_succ]
      refine way_make rfl (by rfl) (fun K hK => ?_)
      refine wp_store8 (vs := lgc X) rfl rfl rfl BXw6.out HJX.out HNX.out HCX.out ?_
      intro w7 hbs hgs hss
      have SBw7 := Lib.hid (show Below w2.heap.size w2 w7 from bel_upd SBw6.out hgs (Nat.le_refl _) QBX.out)
      have BXw7 := Lib.hid hbs
      clear hbs hgs hss
      refine hK _ _ (fun W => Below w2.heap.size w2 W) (fun W h => h) SBw7.out ?_
      clear hK K
      repeat first
        | refine way_load8 (x := .tmp 3) rfl (by rfl) rfl rfl (fun W hW => HBw2.out.below hW) Try.underlying25 rfl HIl.out ?_
          simp only [Act.put, List.setIfInBounds_toArray, List.set_cons_zero, List.set_cons_succ]
        | refine way_pure (v := ?_) rfl (by rfl) (fun W hW => ?_) ?_
          rotate_left
          · have d1 : W.cell? ⟨w.heap.size + 1, 1, none⟩ = some (.int .i64 p) := (HPw2.out.below hW).cell 1; have d2 : W.cell? ⟨w.heap.size + 1, 2, none⟩ = some (.int .u64 (a : Int)) := (HPw2.out.below hW).cell 2; clear hW
            go_simp
            with_reducible rfl
          simp only [Act.put, List.setIfInBounds_toArray, List.set_cons_zero, List.set_cons_succ]
      refine way_done ?_
      go_wp2_with fail
      go_meet
      exact ⟨_, rfl, rfl, BXw7.out, SBw7.out⟩
  case rest =>
    obtain ⟨qHX, rfl, rfl, hbx, hbl⟩ := hcut
    generalize wc = w104 at *
    have hb9 : Below w2.heap.size w2 w104 := hbl
    have HBw104 := Lib.hid (HBw2.out.below hb9)
    have HPw104 := Lib.hid (HPw2.out.below hb9)
    have HQw104 := Lib.hid (HQw2.out.below hb9)
    have HLw104 := Lib.hid (HLw2.out.trans (hb9.mono HLw2.out.size))
    clear hb9 HBw2 HPw2 HQw2 HLw2
    have HXw104 := Lib.hid hbx
    clear hbx hbl
    have d1 : w104.cell? ⟨w.heap.size + 1 + 1, 1, none⟩ = some (.int .i64 q) := HQw104.out.cell 1; have d2 : w104.cell? ⟨w.heap.size + 1 + 1, 2, none⟩ = some (.int .u64 (b : Int)) := HQw104.out.cell 2
    go_wp2_with ((with_reducible refine step_load (o := ⟨some 28, _, _, _, _, _⟩) (x := .tmp 7) ?_ ?_ ?_ HXw104.out Try.underlying30 ?_ HJX.out ?_); (rfl); (rfl); (rfl); (rfl))
    clear d1 d2
    ((with_reducible refine (K2.out w104).mono ?_))
    rintro e w105 ⟨rfl, hb⟩
    have hb9 : Below w104.heap.size w104 w105 := hb
    have HBw105 := Lib.hid (HBw104.out.below hb9)
    have HPw105 := Lib.hid (HPw104.out.below hb9)
    have HQw105 := Lib.hid (HQw104.out.below hb9)
    have HXw105 := Lib.hid (HXw104.out.below hb9)
    have HLw105 := Lib.hid (HLw104.out.trans (hb9.mono HLw104.out.size))
    clear hb9 HBw104 HPw104 HQw104 HXw104 HLw104
    clear hb
    go_upto_region 5 with ((with_reducible refine step_store (o := ⟨none, _, _, _, _, _⟩) (vs := lgc Y) (ty := 30) (x := .tmp 9) (y := .tmp 34) ?_ ?_ ?_ ?_ (HZL.out _) HJY.out HNY.out HCY.out ?_); (rfl); (rfl); (rfl); (rfl); intro w106 hb106 hg106 hs106)
    have HYw106 := Lib.hid hb106
    have hq106 : Below w105.heap.size w105 w106 := bel_upd (bel_new (Below.refl _ _) _) hg106 (Nat.le_refl _) (Nat.le_refl _)
    clear hb106 hg106 hs106
    have hb9 : Below w105.heap.size w105 w106 := hq106
    have HBw106 := Lib.hid (HBw105.out.below hb9)
    have HPw106 := Lib.hid (HPw105.out.below hb9)
    have HQw106 := Lib.hid (HQw105.out.below hb9)
    have HXw106 := Lib.hid (HXw105.out.below hb9)
    have HLw106 := Lib.hid (HLw105.out.trans (hb9.mono HLw105.out.size))
    clear hb9 HBw105 HPw105 HQw105 HXw105 HLw105
    clear hq106
    generalize w105.heap.size = q106 at *
    go_upto_region 5 with fail
    go_cut [11, 12] from 36 to 45 (fun s t W => ∃ q9 : Nat, s = Value.pointer (some ⟨q9, 0, none⟩) ∧ t = Value.int .i64 G ∧ Blk W q9 30 (lgc U) ∧ Below w106.heap.size w106 W)
    case first =>
      refine region_way (fun W => Below w106.heap.size w106 W) (.step 0 true (.step 2 true (.step 3 true (.step 4 true (.step 5 true (.both 1 10 (.both 6 10 (.step 7 true (.step 8 true (.step 9 true (.step 10 false (.step 11 false (.step 12 true .done)))))) (.step 6 false (.step 7 true (.step 8 true (.step 9 true (.step 11 false (.step 12 true .done))))))) (.step 1 false (.step 6 false (.step 7 true (.step 8 true (.step 9 true (.step 11 false (.step 12 true .done)))))))))))))
        (by kernel_rfl) (by kernel_rfl) (by kernel_rfl) (by kernel_rfl) (fun _ _ _ _ _ h => h) (Below.refl _ _).drew ?_
      repeat first
        | refine way_load8 (x := .tmp 3) rfl (by rfl) rfl rfl (fun W hW => HBw106.out.below hW) Try.underlying25 rfl HIl.out ?_
          simp only [Act.put, List.setIfInBounds_toArray, List.set_cons_zero, List.set_cons_succ]
        | refine way_load8 (x := .tmp 7) rfl (by rfl) rfl rfl (fun W hW => HXw106.out.below hW) Try.underlying30 rfl HJX.out ?_
          simp only [Act.put, List.setIfInBounds_toArray, List.set_cons_zero, List.set_cons_succ]
        | refine way_load8 (x := .tmp 9) rfl (by rfl) rfl rfl (fun W hW => HYw106.out.below hW) Try.underlying30 rfl HJY.out ?_
          simp only [Act.put, List.setIfInBounds_toArray, List.set_cons_zero, List.set_cons_succ]
        | refine way_pure (v := ?_) rfl (by rfl) (fun W hW => ?_) ?_
          rotate_left
          · have d1 : W.cell? ⟨w.heap.size + 1 + 1, 1, none⟩ = some (.int .i64 q) := (HQw106.out.below hW).cell 1; have d2 : W.cell? ⟨w.heap.size + 1 + 1, 2, none⟩ = some (.int .u64 (b : Int)) := (HQw106.out.below hW).cell 2; clear hW
            go_simp
            with_reducible rfl
          simp only [Act.put, List.setIfInBounds_toArray, List.set_cons_zero, List.set_cons_succ]
      have hbd : Below w106.heap.size w106 w106.drew := (Below.refl _ _).drew
      generalize w106.drew = w107 at hbd ⊢
      have SBw107 := Lib.hid hbd
      clear hbd
      refine way_both rfl (by rfl) rfl (by rfl) (fun K hK => ?_) (fun K hK => ?_) 
      · skip
        go_simp
        ((with_reducible refine (HT.out w107).mono ?_))
        rintro e w108 ⟨rfl, hb⟩
        have SBw108 := Lib.hid (show Below w106.heap.size w106 w108 from SBw107.out.trans (hb.mono SBw107.out.size))
        clear hb
        go_simp
        refine hK _ _ (fun W => Below w106.heap.size w106 W) (fun W h => h) SBw108.out ?_
        clear hK K
        refine way_both rfl (by rfl) rfl (by rfl) (fun K hK => ?_) (fun K hK => ?_) 
        · skip
          go_simp
          ((with_reducible refine (K3.out w108).mono ?_))
          rintro e w109 ⟨rfl, hb⟩
          have SBw109 := Lib.hid (show Below w106.heap.size w106 w109 from SBw108.out.trans (hb.mono SBw108.out.size))
          clear hb
          go_simp
          refine hK _ _ (fun W => Below w106.heap.size w106 W) (fun W h => h) SBw109.out ?_
          clear hK K
          repeat first
            | refine way_load8 (x := .tmp 3) rfl (by rfl) rfl rfl (fun W hW => HBw106.out.below hW) Try.underlying25 rfl HIl.out ?_
              simp only [Act.put, List.setIfInBounds_toArray, List.set_cons_zero, List.set_cons_succ]
            | refine way_load8 (x := .tmp 7) rfl (by rfl) rfl rfl (fun W hW => HXw106.out.below hW) Try.underlying30 rfl HJX.out ?_
              simp only [Act.put, List.setIfInBounds_toArray, List.set_cons_zero, List.set_cons_succ]
            | refine way_load8 (x := .tmp 9) rfl (by rfl) rfl rfl (fun W hW => HYw106.out.below hW) Try.underlying30 rfl HJY.out ?_
              simp only [Act.put, List.setIfInBounds_toArray, List.set_cons_zero, List.set_cons_succ]
            | refine way_pure (v := ?_) rfl (by rfl) (fun W hW => ?_) ?_
              rotate_left
              · have d1 : W.cell? ⟨w.heap.size + 1 + 1, 1, none⟩ = some (.int .i64 q) := (HQw106.out.below hW).cell 1; have d2 : W.cell? ⟨w.heap.size + 1 + 1, 2, none⟩ = some (.int .u64 (b : Int)) := (HQw106.out.below hW).cell 2; clear hW
                go_simp
                with_reducible rfl
              simp only [Act.put, List.setIfInBounds_toArray, List.set_cons_zero, List.set_cons_succ]
          refine way_make rfl (by rfl) (fun K hK => ?_)
          go_simp
          have hbn : Below w109.heap.size w109 (w109.alloc (.cells #[.int .u64 0, .int .u64 0, .int .u64 0, .int .u64 0, .int .u64 0, .int .u64 0, .int .u64 0, .int .u64 0, .int .u64 0] 30)) := bel_new (Below.refl _ _) _
          have hpn := HZL.out w109
          have hqn : w106.heap.size ≤ w109.heap.size := SBw109.out.size
          generalize w109.alloc (.cells #[.int .u64 0, .int .u64 0, .int .u64 0, .int .u64 0, .int .u64 0, .int .u64 0, .int .u64 0, .int .u64 0, .int .u64 0] 30) = w110 at *
          have SBw110 := Lib.hid (show Below w106.heap.size w106 w110 from SBw109.out.trans (hbn.mono SBw109.out.size))
          generalize w109.heap.size = qBX at *
          have BXw110 := Lib.hid hpn
          have QBX := Lib.hid hqn
          clear hbn hpn hqn
          refine hK _ _ (fun W => Below w106.heap.size w106 W) (fun W h => h) SBw110.out ?_
          clear hK K
          refine way_make rfl (by rfl) (fun K hK => ?_)
          refine wp_store8 (vs := lgc U) rfl rfl rfl BXw110.out HJU.out HNU.out HCU.out ?_
          intro w111 hbs hgs hss
          have SBw111 := Lib.hid (show Below w106.heap.size w106 w111 from bel_upd SBw110.out hgs (Nat.le_refl _) QBX.out)
          have BXw111 := Lib.hid hbs
          clear hbs hgs hss
          refine hK _ _ (fun W => Below w106.heap.size w106 W) (fun W h => h) SBw111.out ?_
          clear hK K
          repeat first
            | refine way_load8 (x := .tmp 3) rfl (by rfl) rfl rfl (fun W hW => HBw106.out.below hW) Try.underlying25 rfl HIl.out ?_
              simp only [Act.put, List.setIfInBounds_toArray, List.set_cons_zero, List.set_cons_succ]
            | refine way_load8 (x := .tmp 7) rfl (by rfl) rfl rfl (fun W hW => HXw106.out.below hW) Try.underlying30 rfl HJX.out ?_
              simp only [Act.put, List.setIfInBounds_toArray, List.set_cons_zero, List.set_cons_succ]
            | refine way_load8 (x := .tmp 9) rfl (by rfl) rfl rfl (fun W hW => HYw106.out.below hW) Try.underlying30 rfl HJY.out ?_
              simp only [Act.put, List.setIfInBounds_toArray, List.set_cons_zero, List.set_cons_succ]
            | refine way_pure (v := ?_) rfl (by rfl) (fun W hW => ?_) ?_
              rotate_left
              · have d1 : W.cell? ⟨w.heap.size + 1 + 1, 1, none⟩ = some (.int .i64 q) := (HQw106.out.below hW).cell 1; have d2 : W.cell? ⟨w.heap.size + 1 + 1, 2, none⟩ = some (.int .u64 (b : Int)) := (HQw106.out.below hW).cell 2; clear hW
                go_simp
                with_reducible rfl
              simp only [Act.put, List.setIfInBounds_toArray, List.set_cons_zero, List.set_cons_succ]
          refine way_done ?_
          go_wp2_with fail
          go_meet
          exact ⟨_, rfl, rfl, BXw111.out, SBw111.out⟩
        · skip
          go_simp
          have hbn : Below w108.heap.size w108 (w108.alloc (.cells #[.int .u64 0, .int .u64 0, .int .u64 0, .int .u64 0, .int .u64 0, .int .u64 0, .int .u64 0, .int .u64 0, .int .u64 0] 30)) := bel_new (Below.refl _ _) _
          have hpn := HZL.out w108
          have hqn : w106.heap.size ≤ w108.heap.size := SBw108.out.size
          generalize w108.alloc (.cells #[.int .u64 0, .int .u64 0, .int .u64 0, .int .u64 0, .int .u64 0, .int .u64 0, .int .u64 0, .int .u64 0, .int .u64 0] 30) = w109 at *
          have SBw109 := Lib.hid (show Below w106.heap.size w106 w109 from SBw108.out.trans (hbn.mono SBw108.out.size))
          generalize w108.heap.size = qBX at *
          have BXw109 := Lib.hid hpn
          have QBX := Lib.hid hqn
          clear hbn hpn hqn
          refine hK _ _ (fun W => Below w106.heap.size w106 W) (fun W h => h) SBw109.out ?_
          clear hK K
          refine way_make rfl (by rfl) (fun K hK => ?_)
          go_simp
          ((with_reducible refine (K3.out w109).mono ?_))
          rintro e w110 ⟨rfl, hb⟩
          have SBw110 := Lib.hid (show Below w106.heap.size w106 w110 from SBw109.out.trans (hb.mono SBw109.out.size))
          have BXw110 := Lib.hid (BXw109.out.below hb)
          clear hb
          go_simp
          refine hK _ _ (fun W => Below w106.heap.size w106 W) (fun W h => h) SBw110.out ?_
          clear hK K
          repeat first
            | refine way_load8 (x := .tmp 3) rfl (by rfl) rfl rfl (fun W hW => HBw106.out.below hW) Try.underlying25 rfl HIl.out ?_
              simp only [Act.put, List.setIfInBounds_toArray, List.set_cons_zero, List.set_cons_succ]
            | refine way_load8 (x := .tmp 7) rfl (by rfl) rfl rfl (fun W hW => HXw106.out.below hW) Try.underlying30 rfl HJX.out ?_
              simp only [Act.put, List.setIfInBounds_toArray, List.set_cons_zero, List.set_cons_succ]
            | refine way_load8 (x := .tmp 9) rfl (by rfl) rfl rfl (fun W hW => HYw106.out.below hW) Try.underlying30 rfl HJY.out ?_
              simp only [Act.put, List.setIfInBounds_toArray, List.set_cons_zero, List.set_cons_succ]
            | refine way_pure (v := ?_) rfl (by rfl) (fun W hW => ?_) ?_
              rotate_left
              · have d1 : W.cell? ⟨w.heap.size + 1 + 1, 1, none⟩ = some (.int .i64 q) := (HQw106.out.below hW).cell 1; have d2 : W.cell? ⟨w.heap.size + 1 + 1, 2, none⟩ = some (.int .u64 (b : Int)) := (HQw106.out.below hW).cell 2; clear hW
                go_simp
                with_reducible rfl
              simp only [Act.put, List.setIfInBounds_toArray, List.set_cons_zero, List.set_cons_succ]
          refine way_make rfl (by rfl) (fun K hK => ?_)
          refine wp_store8 (vs := lgc U) rfl rfl rfl BXw110.out HJU.out HNU.out HCU.out ?_
          intro w111 hbs hgs hss
          have SBw111 := Lib.hid (show Below w106.heap.size w106 w111 from bel_upd SBw110.out hgs (Nat.le_refl _) QBX.out)
          have BXw111 := Lib.hid hbs
          clear hbs hgs hss
          refine hK _ _ (fun W => Below w106.heap.size w106 W) (fun W h => h) SBw111.out ?_
          clear hK K
          repeat first
            | refine way_load8 (x := .tmp 3) rfl (by rfl) rfl rfl (fun W hW => HBw106.out.below hW) Try.underlying25 rfl HIl.out ?_
              simp only [Act.put, List.setIfInBounds_toArray, List.set_cons_zero, List.set_cons_succ]
            | refine way_load8 (x := .tmp 7) rfl (by rfl) rfl rfl (fun W hW => HXw106.out.below hW) Try.underlying30 rfl HJX.out ?_
              simp only [Act.put, List.setIfInBounds_toArray, List.set_cons_zero, List.set_cons_succ]
            | refine way_load8 (x := .tmp 9) rfl (by rfl) rfl rfl (fun W hW => HYw106.out.below hW) Try.underlying30 rfl HJY.out ?_
              simp only [Act.put, List.setIfInBounds_toArray, List.set_cons_zero, List.set_cons_succ]
            | refine way_pure (v := ?_) rfl (by rfl) (fun W hW => ?_) ?_
              rotate_left
              · have d1 : W.cell? ⟨w.heap.size + 1 + 1, 1, none⟩ = some (.int .i64 q) := (HQw106.out.below hW).cell 1; have d2 : W.cell? ⟨w.heap.size + 1 + 1, 2, none⟩ = some (.int .u64 (b : Int)) := (HQw106.out.below hW).cell 2; clear hW
                go_simp
                with_reducible rfl
              simp only [Act.put, List.setIfInBounds_toArray, List.set_cons_zero, List.set_cons_succ]
          refine way_done ?_
          go_wp2_with fail
          go_meet
          exact ⟨_, rfl, rfl, BXw111.out, SBw111.out⟩
      · skip
        go_simp
        have hbn : Below w107.heap.size w107 (w107.alloc (.cells #[.int .u64 0, .int .u64 0, .int .u64 0, .int .u64 0, .int .u64 0, .int .u64 0, .int .u64 0, .int .u64 0, .int .u64 0] 30)) := bel_new (Below.refl _ _) _
        have hpn := HZL.out w107
        have hqn : w106.heap.size ≤ w107.heap.size := SBw107.out.size
        generalize w107.alloc (.cells #[.int .u64 0, .int .u64 0, .int .u64 0, .int .u64 0, .int .u64 0, .int .u64 0, .int .u64 0, .int .u64 0, .int .u64 0] 30) = w108 at *
        have SBw108 := Lib.hid (show Below w106.heap.size w106 w108 from SBw107.out.trans (hbn.mono SBw107.out.size))
        generalize w107.heap.size = qBX at *
        have BXw108 := Lib.hid hpn
        have QBX := Lib.hid hqn
        clear hbn hpn hqn
        refine hK _ _ (fun W => Below w106.heap.size w106 W) (fun W h => h) SBw108.out ?_
        clear hK K
        refine way_make rfl (by rfl) (fun K hK => ?_)
        go_simp
        ((with_reducible refine (HT.out w108).mono ?_))
        rintro e w109 ⟨rfl, hb⟩
        have SBw109 := Lib.hid (show Below w106.heap.size w106 w109 from SBw108.out.trans (hb.mono SBw108.out.size))
        have BXw109 := Lib.hid (BXw108.out.below hb)
        clear hb
        go_simp
        refine hK _ _ (fun W => Below w106.heap.size w106 W) (fun W h => h) SBw109.out ?_
        clear hK K
        refine way_make rfl (by rfl) (fun K hK => ?_)
        go_simp
        ((with_reducible refine (K3.out w109).mono ?_))
        rintro e w110 ⟨rfl, hb⟩
        have SBw110 := Lib.hid (show Below w106.heap.size w106 w110 from SBw109.out.trans (hb.mono SBw109.out.size))
        have BXw110 := Lib.hid (BXw109.out.below hb)
        clear hb
        go_simp
        refine hK _ _ (fun W => Below w106.heap.size w106 W) (fun W h => h) SBw110.out ?_
        clear hK K
        repeat first
          | refine way_load8 (x := .tmp 3) rfl (by rfl) rfl rfl (fun W hW => HBw106.out.below hW) Try.underlying25 rfl HIl.out ?_
            simp only [Act.put, List.setIfInBounds_toArray, List.set_cons_zero, List.set_cons_succ]
          | refine way_load8 (x := .tmp 7) rfl (by rfl) rfl rfl (fun W hW => HXw106.out.below hW) Try.underlying30 rfl HJX.out ?_
            simp only [Act.put, List.setIfInBounds_toArray, List.set_cons_zero, List.set_cons_succ]
          | refine way_load8 (x := .tmp 9) rfl (by rfl) rfl rfl (fun W hW => HYw106.out.below hW) Try.underlying30 rfl HJY.out ?_
            simp only [Act.put, List.setIfInBounds_toArray, List.set_cons_zero, List.set_cons_succ]
          | refine way_pure (v := ?_) rfl (by rfl) (fun W hW => ?_) ?_
            rotate_left
            · have d1 : W.cell? ⟨w.heap.size + 1 + 1, 1, none⟩ = some (.int .i64 q) := (HQw106.out.below hW).cell 1; have d2 : W.cell? ⟨w.heap.size + 1 + 1, 2, none⟩ = some (.int .u64 (b : Int)) := (HQw106.out.below hW).cell 2; clear hW
              go_simp
              with_reducible rfl
            simp only [Act.put, List.setIfInBounds_toArray, List.set_cons_zero, List.set_cons_succ]
        refine way_make rfl (by rfl) (fun K hK => ?_)
        refine wp_store8 (vs := lgc U) rfl rfl rfl BXw110.out HJU.out HNU.out HCU.out ?_
        intro w111 hbs hgs hss
        have SBw111 := Lib.hid (show Below w106.heap.size w106 w111 from bel_upd SBw110.out hgs (Nat.le_refl _) QBX.out)
        have BXw111 := Lib.hid hbs
        clear hbs hgs hss
        refine hK _ _ (fun W => Below w106.heap.size w106 W) (fun W h => h) SBw111.out ?_
        clear hK K
        repeat first
          | refine way_load8 (x := .tmp 3) rfl (by rfl) rfl rfl (fun W hW => HBw106.out.below hW) Try.underlying25 rfl HIl.out ?_
            simp only [Act.put, List.setIfInBounds_toArray, List.set_cons_zero, List.set_cons_succ]
          | refine way_load8 (x := .tmp 7) rfl (by rfl) rfl rfl (fun W hW => HXw106.out.below hW) Try.underlying30 rfl HJX.out ?_
            simp only [Act.put, List.setIfInBounds_toArray, List.set_cons_zero, List.set_cons_succ]
          | refine way_load8 (x := .tmp 9) rfl (by rfl) rfl rfl (fun W hW => HYw106.out.below hW) Try.underlying30 rfl HJY.out ?_
            simp only [Act.put, List.setIfInBounds_toArray, List.set_cons_zero, List.set_cons_succ]
          | refine way_pure (v := ?_) rfl (by rfl) (fun W hW => ?_) ?_
            rotate_left
            · have d1 : W.cell? ⟨w.heap.size + 1 + 1, 1, none⟩ = some (.int .i64 q) := (HQw106.out.below hW).cell 1; have d2 : W.cell? ⟨w.heap.size + 1 + 1, 2, none⟩ = some (.int .u64 (b : Int)) := (HQw106.out.below hW).cell 2; clear hW
              go_simp
              with_reducible rfl
            simp only [Act.put, List.setIfInBounds_toArray, List.set_cons_zero, List.set_cons_succ]
        refine way_done ?_
        go_wp2_with fail
        go_meet
        exact ⟨_, rfl, rfl, BXw111.out, SBw111.out⟩
    case rest =>
      obtain ⟨qHU, rfl, rfl, hbx, hbl⟩ := hcut
      generalize wc = w208 at *
      have hb9 : Below w106.heap.size w106 w208 := hbl
      have HBw208 := Lib.hid (HBw106.out.below hb9)
      have HPw208 := Lib.hid (HPw106.out.below hb9)
      have HQw208 := Lib.hid (HQw106.out.below hb9)
      have HXw208 := Lib.hid (HXw106.out.below hb9)
      have HYw208 := Lib.hid (HYw106.out.below hb9)
      have HLw208 := Lib.hid (HLw106.out.trans (hb9.mono HLw106.out.size))
      clear hb9 HBw106 HPw106 HQw106 HXw106 HYw106 HLw106
      have HUw208 := Lib.hid hbx
      clear hbx hbl
      have d1 : w208.cell? ⟨w.heap.size + 1, 1, none⟩ = some (.int .i64 p) := HPw208.out.cell 1; have d2 : w208.cell? ⟨w.heap.size + 1, 2, none⟩ = some (.int .u64 (a : Int)) := HPw208.out.cell 2
      go_wp2_with ((with_reducible refine step_load (o := ⟨some 47, _, _, _, _, _⟩) (x := .tmp 11) ?_ ?_ ?_ HUw208.out Try.underlying30 ?_ HJU.out ?_); (rfl); (rfl); (rfl); (rfl))
      clear d1 d2
      ((with_reducible refine (K4.out w208).mono ?_))
      rintro e w209 ⟨rfl, hb⟩
      have hb9 : Below w208.heap.size w208 w209 := hb
      have HBw209 := Lib.hid (HBw208.out.below hb9)
      have HPw209 := Lib.hid (HPw208.out.below hb9)
      have HQw209 := Lib.hid (HQw208.out.below hb9)
      have HXw209 := Lib.hid (HXw208.out.below hb9)
      have HYw209 := Lib.hid (HYw208.out.below hb9)
      have HUw209 := Lib.hid (HUw208.out.below hb9)
      have HLw209 := Lib.hid (HLw208.out.trans (hb9.mono HLw208.out.size))
      clear hb9 HBw208 HPw208 HQw208 HXw208 HYw208 HUw208 HLw208
      clear hb
      go_upto_region 7 with ((with_reducible refine step_store (o := ⟨none, _, _, _, _, _⟩) (vs := lgc V) (ty := 30) (x := .tmp 13) (y := .tmp 53) ?_ ?_ ?_ ?_ (HZL.out _) HJV.out HNV.out HCV.out ?_); (rfl); (rfl); (rfl); (rfl); intro w210 hb210 hg210 hs210)
      have HVw210 := Lib.hid hb210
      have hq210 : Below w209.heap.size w209 w210 := bel_upd (bel_new (Below.refl _ _) _) hg210 (Nat.le_refl _) (Nat.le_refl _)
      clear hb210 hg210 hs210
      have hb9 : Below w209.heap.size w209 w210 := hq210
      have HBw210 := Lib.hid (HBw209.out.below hb9)
      have HPw210 := Lib.hid (HPw209.out.below hb9)
      have HQw210 := Lib.hid (HQw209.out.below hb9)
      have HXw210 := Lib.hid (HXw209.out.below hb9)
      have HYw210 := Lib.hid (HYw209.out.below hb9)
      have HUw210 := Lib.hid (HUw209.out.below hb9)
      have HLw210 := Lib.hid (HLw209.out.trans (hb9.mono HLw209.out.size))
      clear hb9 HBw209 HPw209 HQw209 HXw209 HYw209 HUw209 HLw209
      clear hq210
      generalize w209.heap.size = q210 at *
      by_cases hEF : E = 0 ∧ F = 0
      · obtain ⟨rfl, rfl⟩ := hEF
        obtain ⟨rfl, rfl⟩ := HE.out.1 ⟨rfl, rfl⟩
        have hyv := HS.out rfl rfl
        have HEQ := Lib.hid (fun W => (show (binOp .eql 25 (.agg (lgc Y).toArray) (.agg (lgc V).toArray)).run Try.prog W = .ok (.bool true) W by rw [← hyv]; exact eq_lgR HOKY.out HOKY.out W true ⟨fun _ => rfl, fun _ => rfl⟩))
        clear hyv
        go_wp2_with fail
        refine region_seq (fun W => Below w210.heap.size w210 W) [(0, true), (1, true), (2, true), (3, true), (4, true), (5, true), (6, true), (7, true), (9, true), (8, false), (10, false), (11, true), (12, true), (13, true)]
          (by kernel_rfl) (by kernel_rfl) (by kernel_rfl) (by kernel_rfl) (fun _ _ _ _ _ h => h) (Below.refl _ _).drew ?_
        repeat first
          | refine seq_load8 (x := .tmp 3) rfl (by rfl) rfl rfl (fun W hW => HBw210.out.below hW) Try.underlying25 rfl HIl.out ?_
            simp only [Act.put, List.setIfInBounds_toArray, List.set_cons_zero, List.set_cons_succ]
          | refine seq_load8 (x := .tmp 7) rfl (by rfl) rfl rfl (fun W hW => HXw210.out.below hW) Try.underlying30 rfl HJX.out ?_
            simp only [Act.put, List.setIfInBounds_toArray, List.set_cons_zero, List.set_cons_succ]
          | refine seq_load8 (x := .tmp 9) rfl (by rfl) rfl rfl (fun W hW => HYw210.out.below hW) Try.underlying30 rfl HJY.out ?_
            simp only [Act.put, List.setIfInBounds_toArray, List.set_cons_zero, List.set_cons_succ]
          | refine seq_load8 (x := .tmp 11) rfl (by rfl) rfl rfl (fun W hW => HUw210.out.below hW) Try.underlying30 rfl HJU.out ?_
            simp only [Act.put, List.setIfInBounds_toArray, List.set_cons_zero, List.set_cons_succ]
          | refine seq_load8 (x := .tmp 13) rfl (by rfl) rfl rfl (fun W hW => HVw210.out.below hW) Try.underlying30 rfl HJV.out ?_
            simp only [Act.put, List.setIfInBounds_toArray, List.set_cons_zero, List.set_cons_succ]
          | refine seq_eqA (c := true) rfl (by rfl) rfl rfl rfl (by kernel_rfl) HEQ.out ?_
            simp only [Act.put, List.setIfInBounds_toArray, List.set_cons_zero, List.set_cons_succ]
          | refine seq_pure (v := ?_) rfl (by rfl) (fun W hW => ?_) ?_
            rotate_left
            · clear hW
              go_simp
              with_reducible rfl
            simp only [Act.put, List.setIfInBounds_toArray, List.set_cons_zero, List.set_cons_succ]
        refine seq_make rfl (by rfl) (fun K hK => ?_)
        go_simp
        have hc := HOY.out w210.drew
        ((with_reducible refine hc.mono ?_))
        rintro e w211 ⟨rfl, hb⟩
        have SBw211 := Lib.hid (show Below w210.heap.size w210 w211 from below_of_drew hb)
        clear hc hb
        go_simp
        refine hK _ _ (fun W => Below w210.heap.size w210 W) (fun W h => h) SBw211.out ?_
        clear hK K
        refine seq_make rfl (by rfl) (fun K hK => ?_)
        go_simp
        have hc := HOV.out w211
        ((with_reducible refine hc.mono ?_))
        rintro e w212 ⟨rfl, hb⟩
        have SBw212 := Lib.hid (show Below w210.heap.size w210 w212 from SBw211.out.trans (hb.mono SBw211.out.size))
        clear hc hb
        go_simp
        refine hK _ _ (fun W => Below w210.heap.size w210 W) (fun W h => h) SBw212.out ?_
        clear hK K
        repeat first
          | refine seq_load8 (x := .tmp 3) rfl (by rfl) rfl rfl (fun W hW => HBw210.out.below hW) Try.underlying25 rfl HIl.out ?_
            simp only [Act.put, List.setIfInBounds_toArray, List.set_cons_zero, List.set_cons_succ]
          | refine seq_load8 (x := .tmp 7) rfl (by rfl) rfl rfl (fun W hW => HXw210.out.below hW) Try.underlying30 rfl HJX.out ?_
            simp only [Act.put, List.setIfInBounds_toArray, List.set_cons_zero, List.set_cons_succ]
          | refine seq_load8 (x := .tmp 9) rfl (by rfl) rfl rfl (fun W hW => HYw210.out.below hW) Try.underlying30 rfl HJY.out ?_
            simp only [Act.put, List.setIfInBounds_toArray, List.set_cons_zero, List.set_cons_succ]
          | refine seq_load8 (x := .tmp 11) rfl (by rfl) rfl rfl (fun W hW => HUw210.out.below hW) Try.underlying30 rfl HJU.out ?_
            simp only [Act.put, List.setIfInBounds_toArray, List.set_cons_zero, List.set_cons_succ]
          | refine seq_load8 (x := .tmp 13) rfl (by rfl) rfl rfl (fun W hW => HVw210.out.below hW) Try.underlying30 rfl HJV.out ?_
            simp only [Act.put, List.setIfInBounds_toArray, List.set_cons_zero, List.set_cons_succ]
          | refine seq_eqA (c := true) rfl (by rfl) rfl rfl rfl (by kernel_rfl) HEQ.out ?_
            simp only [Act.put, List.setIfInBounds_toArray, List.set_cons_zero, List.set_cons_succ]
          | refine seq_pure (v := ?_) rfl (by rfl) (fun W hW => ?_) ?_
            rotate_left
            · clear hW
              go_simp
              with_reducible rfl
            simp only [Act.put, List.setIfInBounds_toArray, List.set_cons_zero, List.set_cons_succ]
        refine seq_done ?_
        have hb9 : Below w210.heap.size w210 w212 := SBw212.out
        have HBw212 := Lib.hid (HBw210.out.below hb9)
        have HPw212 := Lib.hid (HPw210.out.below hb9)
        have HQw212 := Lib.hid (HQw210.out.below hb9)
        have HXw212 := Lib.hid (HXw210.out.below hb9)
        have HYw212 := Lib.hid (HYw210.out.below hb9)
        have HUw212 := Lib.hid (HUw210.out.below hb9)
        have HVw212 := Lib.hid (HVw210.out.below hb9)
        have HLw212 := Lib.hid (HLw210.out.trans (hb9.mono HLw210.out.size))
        clear hb9 HBw210 HPw210 HQw210 HXw210 HYw210 HUw210 HVw210 HLw210
        go_wp2
        go_ret
        exact ⟨rfl, HLw212.out⟩
      · have hgh : ¬ (G = 0 ∧ H = 0) := fun hh => hEF (HE.out.2 hh)
        by_cases hE : E = 0
        · have hF : ¬ F = 0 := fun e => hEF ⟨hE, e⟩
          have b1 : (E != 0) = false := by simpa using hE
          have b2 : (F != 0) = true := by simpa using hF
          by_cases hG : G = 0
          · have hH : ¬ H = 0 := fun e => hgh ⟨hG, e⟩
            have b3 : (G != 0) = false := by simpa using hG
            have b4 : (H != 0) = true := by simpa using hH
            clear hG hH hgh hEF hE hF
            go_wp2_with fail
            go_ret
            exact ⟨rfl, HLw210.out⟩
          · have b3 : (G != 0) = true := by simpa using hG
            clear hG hgh hEF hE hF
            go_wp2_with fail
            go_ret
            exact ⟨rfl, HLw210.out⟩
        · have b1 : (E != 0) = true := by simpa using hE
          by_cases hG : G = 0
          · have hH : ¬ H = 0 := fun e => hgh ⟨hG, e⟩
            have b3 : (G != 0) = false := by simpa using hG
            have b4 : (H != 0) = true := by simpa using hH
            clear hG hH hgh hEF hE
            go_wp2_with fail
            go_ret
            exact ⟨rfl, HLw210.out⟩
          · have b3 : (G != 0) = true := by simpa using hG
            clear hG hgh hEF hE
            go_wp2_with fail
            go_ret
            exact ⟨rfl, HLw210.out⟩
end Go.Proofs.Ytpnjjeplgkaaoaa
