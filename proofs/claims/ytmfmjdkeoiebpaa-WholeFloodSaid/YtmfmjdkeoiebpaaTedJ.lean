/-
  The document's guess (viaductref15): what 88 bytes would say. Condition: there are 88.
-/
import Derived.Test.YtmfmjdkeoiebpaaTedI
import Derived.Test.YtmfmjdkeoiebpaaTecH
import Derived.Deep.CutBlock
namespace Go.Proofs.Ytmfmjdkeoiebpaa
set_option maxRecDepth 100000
set_option linter.unusedVariables false
open Go.RowKit

theorem cell_num15 {W : World} {B g o : Nat} {b : List UInt8} (h : Bts W B (some ⟨g, o, none⟩) 88 b) {j : Nat} (hj : j < 88) : W.cell? ⟨g, o + j, none⟩ = some (.int .u8 ((num ((b.drop j).take 1) : Nat) : Int)) := by
  obtain ⟨g', o', e, _, hc⟩ := h.2 (by omega)
  injection e with e
  injection e with e1 e2
  subst e1; subst e2
  have hjb : j < b.length := by rw [h.1]; exact hj
  rw [hc j hjb]
  have : (b.drop j).take 1 = [b[j]] := by
    rw [List.drop_eq_getElem_cons hjb]; rfl
  rw [this]
  simp [num, bv]
theorem part15 {W : World} {B g o : Nat} {b : List UInt8} (h : Bts W B (some ⟨g, o, none⟩) 88 b) (j k : Nat) (hj : j + k ≤ 88) : Bts W B (some ⟨g, o + j, none⟩) k ((b.drop j).take k) := by
  have h1 := h.rest j (by omega)
  exact h1.front k (by omega)
def Gu15 (b : List UInt8) (w : World) (e : Ending) (w' : World) : Prop := e = .returned (.agg (adc (gsA b)).toArray) ∧ Below w.heap.size w w'
set_option maxHeartbeats 6400000 in
theorem guess15_calls (g o c : Nat) (b : List UInt8) (w : World) (h : Bts w w.heap.size (some ⟨g, o, none⟩) 88 b) (hc : 88 ≤ c) (hcm : c ≤ maxLen) : Calls Try.prog 45 #[.slice (some ⟨g, o, none⟩) 88 c] w (Gu15 b w) := by
  unfold maxLen at hcm
  unfold Gu15
  obtain ⟨X, hX⟩ : ∃ X, gsA b = X := ⟨_, rfl⟩
  rw [hX]
  have hok : AdOk X := by rw [← hX]; exact gsA_ok b
  have hi := gsA_is b
  have hfr := fun p hp => gsA_free b (p := p) hp
  rw [hX] at hi hfr
  have HNU := Lib.hid (fun (j k cc : Nat) (W : World) (h : Bts W w.heap.size (some ⟨g, o, none⟩) 88 b) (hj : j + k ≤ 88) (hk : k ≤ 8) => number_calls (some ⟨g, o + j, none⟩) k cc ((b.drop j).take k) W w.heap.size (part15 h j k hj) hk)
  have HCE := Lib.hid (fun (W : World) (h : Bts W w.heap.size (some ⟨g, o, none⟩) 88 b) => (And.intro (cell_num15 h (j := 0) (by omega)) (And.intro (cell_num15 h (j := 1) (by omega)) (cell_num15 h (j := 2) (by omega)))))
  rw [Nat.add_zero] at HCE
  have hl0 := num_cut (b.drop 0) 1
  obtain ⟨v0, hv0⟩ : ∃ v, num ((b.drop 0).take 1) = v := ⟨_, rfl⟩
  have HV0 := Lib.hid hv0
  rw [hv0] at hl0 hi HCE
  clear hv0
  have l0 : v0 < 256 := hl0
  clear hl0
  have hl1 := num_cut (b.drop 1) 1
  obtain ⟨v1, hv1⟩ : ∃ v, num ((b.drop 1).take 1) = v := ⟨_, rfl⟩
  have HV1 := Lib.hid hv1
  rw [hv1] at hl1 hi HCE
  clear hv1
  have l1 : v1 < 256 := hl1
  clear hl1
  have hl2 := num_cut (b.drop 2) 1
  obtain ⟨v2, hv2⟩ : ∃ v, num ((b.drop 2).take 1) = v := ⟨_, rfl⟩
  have HV2 := Lib.hid hv2
  rw [hv2] at hl2 hi HCE
  clear hv2
  have l2 : v2 < 256 := hl2
  clear hl2
  have hl4 := num_cut (b.drop 4) 4
  obtain ⟨v4, hv4⟩ : ∃ v, num ((b.drop 4).take 4) = v := ⟨_, rfl⟩
  have HV4 := Lib.hid hv4
  rw [hv4] at hl4 hi
  clear hv4
  have l4 : v4 < 4294967296 := hl4
  clear hl4
  have hl8 := num_cut (b.drop 8) 8
  obtain ⟨v8, hv8⟩ : ∃ v, num ((b.drop 8).take 8) = v := ⟨_, rfl⟩
  have HV8 := Lib.hid hv8
  rw [hv8] at hl8 hi
  clear hv8
  have l8 : v8 < 18446744073709551616 := hl8
  clear hl8
  have hl16 := num_cut (b.drop 16) 4
  obtain ⟨v16, hv16⟩ : ∃ v, num ((b.drop 16).take 4) = v := ⟨_, rfl⟩
  have HV16 := Lib.hid hv16
  rw [hv16] at hl16 hi
  clear hv16
  have l16 : v16 < 4294967296 := hl16
  clear hl16
  have hl20 := num_cut (b.drop 20) 4
  obtain ⟨v20, hv20⟩ : ∃ v, num ((b.drop 20).take 4) = v := ⟨_, rfl⟩
  have HV20 := Lib.hid hv20
  rw [hv20] at hl20 hi
  clear hv20
  have l20 : v20 < 4294967296 := hl20
  clear hl20
  obtain ⟨F, hF⟩ : ∃ F, X.f = F := ⟨_, rfl⟩
  have hFl : F.length = 8 := by rw [← hF]; exact hok.len
  rw [hF] at hi hfr
  obtain ⟨up, hup⟩ : ∃ up, (v2 == 1) = up := ⟨_, rfl⟩
  rw [hup] at hi
  have HI := Lib.hid hi
  have HFR := Lib.hid hfr
  have HFL := Lib.hid hFl
  have HB := Lib.hid h
  have HIN := Lib.hid (fun x : Ad => (show (Try.prog.info? 42).map (·.size) = some (adc x).length from infoAdS15))
  have d2 : decide ((v2 : Int) = 1) = up := by rw [← hup, Bool.eq_iff_iff]; simp; omega
  have d3 : ((v2 : Int) == 1) = up := by rw [← hup, Bool.eq_iff_iff]; simp; omega
  have d4 : decide (v2 = 1) = up := by rw [← hup, Bool.eq_iff_iff]; simp
  have D2 := Lib.hid (And.intro d2 (And.intro d3 d4))
  have K2 := Lib.hid (show Blk (w.alloc (.cells #[.int .i64 0, .int .i64 0, .int .u64 0, .int .i64 0, .int .u32 0, .int .i64 0, .bool false, .int .u64 0, .int .u64 0, .int .u64 0, .int .u64 0, .int .u64 0, .int .u64 0, .int .u64 0, .int .u64 0] 42)) w.heap.size 42 zr15 from Blk.new w _ zr15)
  have L2 := Lib.hid (bel_new (Below.refl w.heap.size w) (.cells #[.int .i64 0, .int .i64 0, .int .u64 0, .int .i64 0, .int .u32 0, .int .i64 0, .bool false, .int .u64 0, .int .u64 0, .int .u64 0, .int .u64 0, .int .u64 0, .int .u64 0, .int .u64 0, .int .u64 0] 42))
  have BT := Lib.hid (show Bts (w.alloc (.cells #[.int .i64 0, .int .i64 0, .int .u64 0, .int .i64 0, .int .u32 0, .int .i64 0, .bool false, .int .u64 0, .int .u64 0, .int .u64 0, .int .u64 0, .int .u64 0, .int .u64 0, .int .u64 0, .int .u64 0] 42)) w.heap.size (some ⟨g, o, none⟩) 88 b from h.below L2.out)
  clear hi hfr hFl hok h hX hF hup d2 d3 d4
  go_enter Try.func45, Try.ntmps45
  go_upto_region 1 with fail
  generalize w.alloc (.cells #[.int .i64 0, .int .i64 0, .int .u64 0, .int .i64 0, .int .u32 0, .int .i64 0, .bool false, .int .u64 0, .int .u64 0, .int .u64 0, .int .u64 0, .int .u64 0, .int .u64 0, .int .u64 0, .int .u64 0] 42) = w1 at *
  go_cut [3] from 5 to 33 (fun s W => ∃ q3, s = .pointer (some ⟨q3, 0, none⟩) ∧ w.heap.size < q3 ∧ Blk W q3 42 (adc ⟨⟨(v0 : Int), (v1 : Int), (v8 : Int), (v16 : Int), (v20 : Int)⟩, (v4 : Int), up, ld15 F 0⟩) ∧ Blk W w.heap.size 42 zr15 ∧ Bts W w.heap.size (some ⟨g, o, none⟩) 88 b ∧ Below w.heap.size w W)
  case first =>
    have k8 : (8 : Int) ≤ (c : Int) := by omega
    have k16 : (16 : Int) ≤ (c : Int) := by omega
    have k20 : (20 : Int) ≤ (c : Int) := by omega
    have k24 : (24 : Int) ≤ (c : Int) := by omega
    have i0 : IntKind.i64.wrap (v0 : Int) = (v0 : Int) := IntWalk.i64_in _ (by omega)
    have i1 : IntKind.i64.wrap (v1 : Int) = (v1 : Int) := IntWalk.i64_in _ (by omega)
    have i16 : IntKind.i64.wrap (v16 : Int) = (v16 : Int) := IntWalk.i64_in _ (by omega)
    have i4 : IntKind.i64.wrap (v4 : Int) = (v4 : Int) := IntWalk.i64_in _ (by omega)
    have i20 : IntKind.u32.wrap (v20 : Int) = (v20 : Int) := IntWalk.u32_in _ (by omega)
    have n4 : ¬ c = 4 := by omega
    have n8 : ¬ c = 8 := by omega
    have n16 : ¬ c = 16 := by omega
    have n20 : ¬ c = 20 := by omega
    refine region_way (fun W => Bts W w.heap.size (some ⟨g, o, none⟩) 88 b) (.step 0 true (.step 1 true (.step 2 true (.step 3 true (.step 4 true (.step 5 true (.step 6 true (.step 7 true (.step 8 true (.step 9 true (.step 11 true (.step 12 true (.step 15 true (.step 16 true (.step 20 true (.step 21 true (.step 24 true (.step 25 true (.step 26 true (.step 27 true (.both 10 29 (.both 13 29 (.step 14 true (.both 17 29 (.step 18 true (.step 19 true (.both 22 29 (.step 23 true (.step 28 true (.step 29 false (.step 30 false .done)))) (.step 22 false (.step 23 true (.step 28 true (.step 30 false .done))))))) (.step 17 false (.step 18 true (.step 19 true (.step 22 false (.step 23 true (.step 28 true (.step 30 false .done))))))))) (.step 13 false (.step 14 true (.step 17 false (.step 18 true (.step 19 true (.step 22 false (.step 23 true (.step 28 true (.step 30 false .done)))))))))) (.step 10 false (.step 13 false (.step 14 true (.step 17 false (.step 18 true (.step 19 true (.step 22 false (.step 23 true (.step 28 true (.step 30 false .done)))))))))))))))))))))))))))))))
      (by kernel_rfl) (by kernel_rfl) (by kernel_rfl) (by kernel_rfl) (fun _ _ _ _ _ h => h) BT.out.drew ?_
    repeat
      refine way_pure (v := ?_) rfl (by rfl) (fun W hW => ?_) ?_
      rotate_left
      · obtain ⟨c0, c1, c2⟩ := HCE.out W hW
        obtain ⟨d2, d3, d4⟩ := D2.out
        clear hW
        go_simp
        with_reducible rfl
      simp only [Act.put, List.setIfInBounds_toArray, List.set_cons_zero, List.set_cons_succ]
    have K2b := Lib.hid K2.out.drew
    have L2b := Lib.hid L2.out.drew
    have BTb := Lib.hid BT.out.drew
    clear K2 L2 BT
    generalize w1.drew = x0 at *
    refine way_both rfl (by rfl) rfl (by rfl) (fun K hK => ?_) (fun K hK => ?_)
    · skip
      go_simp
      ((with_reducible refine (show Calls Try.prog 58 #[.slice (some ⟨g, o + 8, none⟩) 8 (c - 8)] x0 (fun e w' => e = .returned (.int .u64 (v8 : Int)) ∧ x0 = w') from by have := HNU.out 8 8 (c - 8) x0 BTb.out (by omega) (by omega); rwa [HV8.out] at this).mono ?_))
      rintro e x9 ⟨rfl, rfl⟩
      go_simp
      refine hK _ _ (fun W => Bts W w.heap.size (some ⟨g, o, none⟩) 88 b) (fun W h => h) BTb.out ?_
      clear hK K
      repeat
        refine way_pure (v := ?_) rfl (by rfl) (fun W hW => ?_) ?_
        rotate_left
        · obtain ⟨c0, c1, c2⟩ := HCE.out W hW
          obtain ⟨d2, d3, d4⟩ := D2.out
          clear hW
          go_simp
          with_reducible rfl
        simp only [Act.put, List.setIfInBounds_toArray, List.set_cons_zero, List.set_cons_succ]
      refine way_both rfl (by rfl) rfl (by rfl) (fun K hK => ?_) (fun K hK => ?_)
      · skip
        go_simp
        ((with_reducible refine (show Calls Try.prog 58 #[.slice (some ⟨g, o + 16, none⟩) 4 (c - 16)] x0 (fun e w' => e = .returned (.int .u64 (v16 : Int)) ∧ x0 = w') from by have := HNU.out 16 4 (c - 16) x0 BTb.out (by omega) (by omega); rwa [HV16.out] at this).mono ?_))
        rintro e x9 ⟨rfl, rfl⟩
        go_simp
        refine hK _ _ (fun W => Bts W w.heap.size (some ⟨g, o, none⟩) 88 b) (fun W h => h) BTb.out ?_
        clear hK K
        repeat
          refine way_pure (v := ?_) rfl (by rfl) (fun W hW => ?_) ?_
          rotate_left
          · obtain ⟨c0, c1, c2⟩ := HCE.out W hW
            obtain ⟨d2, d3, d4⟩ := D2.out
            clear hW
            go_simp
            with_reducible rfl
          simp only [Act.put, List.setIfInBounds_toArray, List.set_cons_zero, List.set_cons_succ]
        refine way_both rfl (by rfl) rfl (by rfl) (fun K hK => ?_) (fun K hK => ?_)
        · skip
          go_simp
          ((with_reducible refine (show Calls Try.prog 58 #[.slice (some ⟨g, o + 20, none⟩) 4 (c - 20)] x0 (fun e w' => e = .returned (.int .u64 (v20 : Int)) ∧ x0 = w') from by have := HNU.out 20 4 (c - 20) x0 BTb.out (by omega) (by omega); rwa [HV20.out] at this).mono ?_))
          rintro e x9 ⟨rfl, rfl⟩
          go_simp
          refine hK _ _ (fun W => Bts W w.heap.size (some ⟨g, o, none⟩) 88 b) (fun W h => h) BTb.out ?_
          clear hK K
          repeat
            refine way_pure (v := ?_) rfl (by rfl) (fun W hW => ?_) ?_
            rotate_left
            · obtain ⟨c0, c1, c2⟩ := HCE.out W hW
              obtain ⟨d2, d3, d4⟩ := D2.out
              clear hW
              go_simp
              with_reducible rfl
            simp only [Act.put, List.setIfInBounds_toArray, List.set_cons_zero, List.set_cons_succ]
          refine way_both rfl (by rfl) rfl (by rfl) (fun K hK => ?_) (fun K hK => ?_)
          · skip
            go_simp
            ((with_reducible refine (show Calls Try.prog 58 #[.slice (some ⟨g, o + 4, none⟩) 4 (c - 4)] x0 (fun e w' => e = .returned (.int .u64 (v4 : Int)) ∧ x0 = w') from by have := HNU.out 4 4 (c - 4) x0 BTb.out (by omega) (by omega); rwa [HV4.out] at this).mono ?_))
            rintro e x9 ⟨rfl, rfl⟩
            go_simp
            refine hK _ _ (fun W => Bts W w.heap.size (some ⟨g, o, none⟩) 88 b) (fun W h => h) BTb.out ?_
            clear hK K
            repeat
              refine way_pure (v := ?_) rfl (by rfl) (fun W hW => ?_) ?_
              rotate_left
              · obtain ⟨c0, c1, c2⟩ := HCE.out W hW
                obtain ⟨d2, d3, d4⟩ := D2.out
                clear hW
                go_simp
                with_reducible rfl
              simp only [Act.put, List.setIfInBounds_toArray, List.set_cons_zero, List.set_cons_succ]
            refine way_make rfl (by rfl) (fun K hK => ?_)
            go_simp
            have hbl := bel_new (Below.refl x0.heap.size x0) (.cells #[.int .i64 0, .int .i64 0, .int .u64 0, .int .i64 0, .int .u32 0, .int .i64 0, .bool false, .int .u64 0, .int .u64 0, .int .u64 0, .int .u64 0, .int .u64 0, .int .u64 0, .int .u64 0, .int .u64 0] 42)
            have K3c := Lib.hid (show Blk (x0.alloc (.cells #[.int .i64 0, .int .i64 0, .int .u64 0, .int .i64 0, .int .u32 0, .int .i64 0, .bool false, .int .u64 0, .int .u64 0, .int .u64 0, .int .u64 0, .int .u64 0, .int .u64 0, .int .u64 0, .int .u64 0] 42)) x0.heap.size 42 zr15 from Blk.new x0 _ zr15)
            have K2c := Lib.hid (K2b.out.below hbl)
            have L2c := Lib.hid (L2b.out.trans (hbl.mono L2b.out.size))
            have Q3 := Lib.hid (show w.heap.size < x0.heap.size from K2b.out.lt)
            have BTc := Lib.hid (show Bts (x0.alloc (.cells #[.int .i64 0, .int .i64 0, .int .u64 0, .int .i64 0, .int .u32 0, .int .i64 0, .bool false, .int .u64 0, .int .u64 0, .int .u64 0, .int .u64 0, .int .u64 0, .int .u64 0, .int .u64 0, .int .u64 0] 42)) w.heap.size (some ⟨g, o, none⟩) 88 b from BTb.out.below (hbl.mono (Nat.le_of_lt K2b.out.lt)))
            clear hbl K2b L2b BTb
            generalize x0.alloc (.cells #[.int .i64 0, .int .i64 0, .int .u64 0, .int .i64 0, .int .u32 0, .int .i64 0, .bool false, .int .u64 0, .int .u64 0, .int .u64 0, .int .u64 0, .int .u64 0, .int .u64 0, .int .u64 0, .int .u64 0] 42) = x1 at *
            generalize x0.heap.size = q3 at *
            refine hK _ _ (fun W => Bts W w.heap.size (some ⟨g, o, none⟩) 88 b) (fun W h => h) BTc.out ?_
            clear hK K
            repeat
              refine way_pure (v := ?_) rfl (by rfl) (fun W hW => ?_) ?_
              rotate_left
              · obtain ⟨c0, c1, c2⟩ := HCE.out W hW
                obtain ⟨d2, d3, d4⟩ := D2.out
                clear hW
                go_simp
                with_reducible rfl
              simp only [Act.put, List.setIfInBounds_toArray, List.set_cons_zero, List.set_cons_succ]
            refine way_make rfl (by rfl) (fun K hK => ?_)
            refine wp_store8 (vs := adc ⟨⟨(v0 : Int), (v1 : Int), (v8 : Int), (v16 : Int), (v20 : Int)⟩, (v4 : Int), up, ld15 F 0⟩) rfl rfl rfl K3c.out (HIN.out _) rfl (adc_one _) ?_
            intro x6 hbs hgs hss
            have K36 := Lib.hid hbs
            have K26 := Lib.hid (K2c.out.same (hgs.block _ K2c.out.lt (fun e => by injection e with e; have := Q3.out; omega)))
            have L26 := Lib.hid (bel_upd L2c.out hgs (Nat.le_refl _) (Nat.le_of_lt Q3.out))
            have BT6 := Lib.hid (show Bts x6 w.heap.size (some ⟨g, o, none⟩) 88 b from HB.out.below L26.out)
            clear hbs hgs hss K3c K2c L2c BTc
            refine hK _ _ (fun W => Bts W w.heap.size (some ⟨g, o, none⟩) 88 b) (fun W h => h) BT6.out ?_
            clear hK K
            refine way_done ?_
            go_wp2_with fail
            go_meet
            exact ⟨q3, rfl, Q3.out, K36.out, K26.out, BT6.out, L26.out⟩
          · skip
            go_simp
            have hbl := bel_new (Below.refl x0.heap.size x0) (.cells #[.int .i64 0, .int .i64 0, .int .u64 0, .int .i64 0, .int .u32 0, .int .i64 0, .bool false, .int .u64 0, .int .u64 0, .int .u64 0, .int .u64 0, .int .u64 0, .int .u64 0, .int .u64 0, .int .u64 0] 42)
            have K3c := Lib.hid (show Blk (x0.alloc (.cells #[.int .i64 0, .int .i64 0, .int .u64 0, .int .i64 0, .int .u32 0, .int .i64 0, .bool false, .int .u64 0, .int .u64 0, .int .u64 0, .int .u64 0, .int .u64 0, .int .u64 0, .int .u64 0, .int .u64 0] 42)) x0.heap.size 42 zr15 from Blk.new x0 _ zr15)
            have K2c := Lib.hid (K2b.out.below hbl)
            have L2c := Lib.hid (L2b.out.trans (hbl.mono L2b.out.size))
            have Q3 := Lib.hid (show w.heap.size < x0.heap.size from K2b.out.lt)
            have BTc := Lib.hid (show Bts (x0.alloc (.cells #[.int .i64 0, .int .i64 0, .int .u64 0, .int .i64 0, .int .u32 0, .int .i64 0, .bool false, .int .u64 0, .int .u64 0, .int .u64 0, .int .u64 0, .int .u64 0, .int .u64 0, .int .u64 0, .int .u64 0] 42)) w.heap.size (some ⟨g, o, none⟩) 88 b from BTb.out.below (hbl.mono (Nat.le_of_lt K2b.out.lt)))
            clear hbl K2b L2b BTb
            generalize x0.alloc (.cells #[.int .i64 0, .int .i64 0, .int .u64 0, .int .i64 0, .int .u32 0, .int .i64 0, .bool false, .int .u64 0, .int .u64 0, .int .u64 0, .int .u64 0, .int .u64 0, .int .u64 0, .int .u64 0, .int .u64 0] 42) = x1 at *
            generalize x0.heap.size = q3 at *
            refine hK _ _ (fun W => Bts W w.heap.size (some ⟨g, o, none⟩) 88 b) (fun W h => h) BTc.out ?_
            clear hK K
            repeat
              refine way_pure (v := ?_) rfl (by rfl) (fun W hW => ?_) ?_
              rotate_left
              · obtain ⟨c0, c1, c2⟩ := HCE.out W hW
                obtain ⟨d2, d3, d4⟩ := D2.out
                clear hW
                go_simp
                with_reducible rfl
              simp only [Act.put, List.setIfInBounds_toArray, List.set_cons_zero, List.set_cons_succ]
            refine way_make rfl (by rfl) (fun K hK => ?_)
            go_simp
            ((with_reducible refine (show Calls Try.prog 58 #[.slice (some ⟨g, o + 4, none⟩) 4 (c - 4)] x1 (fun e w' => e = .returned (.int .u64 (v4 : Int)) ∧ x1 = w') from by have := HNU.out 4 4 (c - 4) x1 BTc.out (by omega) (by omega); rwa [HV4.out] at this).mono ?_))
            rintro e x9 ⟨rfl, rfl⟩
            go_simp
            refine hK _ _ (fun W => Bts W w.heap.size (some ⟨g, o, none⟩) 88 b) (fun W h => h) BTc.out ?_
            clear hK K
            repeat
              refine way_pure (v := ?_) rfl (by rfl) (fun W hW => ?_) ?_
              rotate_left
              · obtain ⟨c0, c1, c2⟩ := HCE.out W hW
                obtain ⟨d2, d3, d4⟩ := D2.out
                clear hW
                go_simp
                with_reducible rfl
              simp only [Act.put, List.setIfInBounds_toArray, List.set_cons_zero, List.set_cons_succ]
            refine way_make rfl (by rfl) (fun K hK => ?_)
            refine wp_store8 (vs := adc ⟨⟨(v0 : Int), (v1 : Int), (v8 : Int), (v16 : Int), (v20 : Int)⟩, (v4 : Int), up, ld15 F 0⟩) rfl rfl rfl K3c.out (HIN.out _) rfl (adc_one _) ?_
            intro x6 hbs hgs hss
            have K36 := Lib.hid hbs
            have K26 := Lib.hid (K2c.out.same (hgs.block _ K2c.out.lt (fun e => by injection e with e; have := Q3.out; omega)))
            have L26 := Lib.hid (bel_upd L2c.out hgs (Nat.le_refl _) (Nat.le_of_lt Q3.out))
            have BT6 := Lib.hid (show Bts x6 w.heap.size (some ⟨g, o, none⟩) 88 b from HB.out.below L26.out)
            clear hbs hgs hss K3c K2c L2c BTc
            refine hK _ _ (fun W => Bts W w.heap.size (some ⟨g, o, none⟩) 88 b) (fun W h => h) BT6.out ?_
            clear hK K
            refine way_done ?_
            go_wp2_with fail
            go_meet
            exact ⟨q3, rfl, Q3.out, K36.out, K26.out, BT6.out, L26.out⟩
        · skip
          go_simp
          have hbl := bel_new (Below.refl x0.heap.size x0) (.cells #[.int .i64 0, .int .i64 0, .int .u64 0, .int .i64 0, .int .u32 0, .int .i64 0, .bool false, .int .u64 0, .int .u64 0, .int .u64 0, .int .u64 0, .int .u64 0, .int .u64 0, .int .u64 0, .int .u64 0] 42)
          have K3c := Lib.hid (show Blk (x0.alloc (.cells #[.int .i64 0, .int .i64 0, .int .u64 0, .int .i64 0, .int .u32 0, .int .i64 0, .bool false, .int .u64 0, .int .u64 0, .int .u64 0, .int .u64 0, .int .u64 0, .int .u64 0, .int .u64 0, .int .u64 0] 42)) x0.heap.size 42 zr15 from Blk.new x0 _ zr15)
          have K2c := Lib.hid (K2b.out.below hbl)
          have L2c := Lib.hid (L2b.out.trans (hbl.mono L2b.out.size))
          have Q3 := Lib.hid (show w.heap.size < x0.heap.size from K2b.out.lt)
          have BTc := Lib.hid (show Bts (x0.alloc (.cells #[.int .i64 0, .int .i64 0, .int .u64 0, .int .i64 0, .int .u32 0, .int .i64 0, .bool false, .int .u64 0, .int .u64 0, .int .u64 0, .int .u64 0, .int .u64 0, .int .u64 0, .int .u64 0, .int .u64 0] 42)) w.heap.size (some ⟨g, o, none⟩) 88 b from BTb.out.below (hbl.mono (Nat.le_of_lt K2b.out.lt)))
          clear hbl K2b L2b BTb
          generalize x0.alloc (.cells #[.int .i64 0, .int .i64 0, .int .u64 0, .int .i64 0, .int .u32 0, .int .i64 0, .bool false, .int .u64 0, .int .u64 0, .int .u64 0, .int .u64 0, .int .u64 0, .int .u64 0, .int .u64 0, .int .u64 0] 42) = x1 at *
          generalize x0.heap.size = q3 at *
          refine hK _ _ (fun W => Bts W w.heap.size (some ⟨g, o, none⟩) 88 b) (fun W h => h) BTc.out ?_
          clear hK K
          repeat
            refine way_pure (v := ?_) rfl (by rfl) (fun W hW => ?_) ?_
            rotate_left
            · obtain ⟨c0, c1, c2⟩ := HCE.out W hW
              obtain ⟨d2, d3, d4⟩ := D2.out
              clear hW
              go_simp
              with_reducible rfl
            simp only [Act.put, List.setIfInBounds_toArray, List.set_cons_zero, List.set_cons_succ]
          refine way_make rfl (by rfl) (fun K hK => ?_)
          go_simp
          ((with_reducible refine (show Calls Try.prog 58 #[.slice (some ⟨g, o + 20, none⟩) 4 (c - 20)] x1 (fun e w' => e = .returned (.int .u64 (v20 : Int)) ∧ x1 = w') from by have := HNU.out 20 4 (c - 20) x1 BTc.out (by omega) (by omega); rwa [HV20.out] at this).mono ?_))
          rintro e x9 ⟨rfl, rfl⟩
          go_simp
          refine hK _ _ (fun W => Bts W w.heap.size (some ⟨g, o, none⟩) 88 b) (fun W h => h) BTc.out ?_
          clear hK K
          repeat
            refine way_pure (v := ?_) rfl (by rfl) (fun W hW => ?_) ?_
            rotate_left
            · obtain ⟨c0, c1, c2⟩ := HCE.out W hW
              obtain ⟨d2, d3, d4⟩ := D2.out
              clear hW
              go_simp
              with_reducible rfl
            simp only [Act.put, List.setIfInBounds_toArray, List.set_cons_zero, List.set_cons_succ]
          refine way_make rfl (by rfl) (fun K hK => ?_)
          go_simp
          ((with_reducible refine (show Calls Try.prog 58 #[.slice (some ⟨g, o + 4, none⟩) 4 (c - 4)] x1 (fun e w' => e = .returned (.int .u64 (v4 : Int)) ∧ x1 = w') from by have := HNU.out 4 4 (c - 4) x1 BTc.out (by omega) (by omega); rwa [HV4.out] at this).mono ?_))
          rintro e x9 ⟨rfl, rfl⟩
          go_simp
          refine hK _ _ (fun W => Bts W w.heap.size (some ⟨g, o, none⟩) 88 b) (fun W h => h) BTc.out ?_
          clear hK K
          repeat
            refine way_pure (v := ?_) rfl (by rfl) (fun W hW => ?_) ?_
            rotate_left
            · obtain ⟨c0, c1, c2⟩ := HCE.out W hW
              obtain ⟨d2, d3, d4⟩ := D2.out
              clear hW
              go_simp
              with_reducible rfl
            simp only [Act.put, List.setIfInBounds_toArray, List.set_cons_zero, List.set_cons_succ]
          refine way_make rfl (by rfl) (fun K hK => ?_)
          refine wp_store8 (vs := adc ⟨⟨(v0 : Int), (v1 : Int), (v8 : Int), (v16 : Int), (v20 : Int)⟩, (v4 : Int), up, ld15 F 0⟩) rfl rfl rfl K3c.out (HIN.out _) rfl (adc_one _) ?_
          intro x6 hbs hgs hss
          have K36 := Lib.hid hbs
          have K26 := Lib.hid (K2c.out.same (hgs.block _ K2c.out.lt (fun e => by injection e with e; have := Q3.out; omega)))
          have L26 := Lib.hid (bel_upd L2c.out hgs (Nat.le_refl _) (Nat.le_of_lt Q3.out))
          have BT6 := Lib.hid (show Bts x6 w.heap.size (some ⟨g, o, none⟩) 88 b from HB.out.below L26.out)
          clear hbs hgs hss K3c K2c L2c BTc
          refine hK _ _ (fun W => Bts W w.heap.size (some ⟨g, o, none⟩) 88 b) (fun W h => h) BT6.out ?_
          clear hK K
          refine way_done ?_
          go_wp2_with fail
          go_meet
          exact ⟨q3, rfl, Q3.out, K36.out, K26.out, BT6.out, L26.out⟩
      · skip
        go_simp
        have hbl := bel_new (Below.refl x0.heap.size x0) (.cells #[.int .i64 0, .int .i64 0, .int .u64 0, .int .i64 0, .int .u32 0, .int .i64 0, .bool false, .int .u64 0, .int .u64 0, .int .u64 0, .int .u64 0, .int .u64 0, .int .u64 0, .int .u64 0, .int .u64 0] 42)
        have K3c := Lib.hid (show Blk (x0.alloc (.cells #[.int .i64 0, .int .i64 0, .int .u64 0, .int .i64 0, .int .u32 0, .int .i64 0, .bool false, .int .u64 0, .int .u64 0, .int .u64 0, .int .u64 0, .int .u64 0, .int .u64 0, .int .u64 0, .int .u64 0] 42)) x0.heap.size 42 zr15 from Blk.new x0 _ zr15)
        have K2c := Lib.hid (K2b.out.below hbl)
        have L2c := Lib.hid (L2b.out.trans (hbl.mono L2b.out.size))
        have Q3 := Lib.hid (show w.heap.size < x0.heap.size from K2b.out.lt)
        have BTc := Lib.hid (show Bts (x0.alloc (.cells #[.int .i64 0, .int .i64 0, .int .u64 0, .int .i64 0, .int .u32 0, .int .i64 0, .bool false, .int .u64 0, .int .u64 0, .int .u64 0, .int .u64 0, .int .u64 0, .int .u64 0, .int .u64 0, .int .u64 0] 42)) w.heap.size (some ⟨g, o, none⟩) 88 b from BTb.out.below (hbl.mono (Nat.le_of_lt K2b.out.lt)))
        clear hbl K2b L2b BTb
        generalize x0.alloc (.cells #[.int .i64 0, .int .i64 0, .int .u64 0, .int .i64 0, .int .u32 0, .int .i64 0, .bool false, .int .u64 0, .int .u64 0, .int .u64 0, .int .u64 0, .int .u64 0, .int .u64 0, .int .u64 0, .int .u64 0] 42) = x1 at *
        generalize x0.heap.size = q3 at *
        refine hK _ _ (fun W => Bts W w.heap.size (some ⟨g, o, none⟩) 88 b) (fun W h => h) BTc.out ?_
        clear hK K
        repeat
          refine way_pure (v := ?_) rfl (by rfl) (fun W hW => ?_) ?_
          rotate_left
          · obtain ⟨c0, c1, c2⟩ := HCE.out W hW
            obtain ⟨d2, d3, d4⟩ := D2.out
            clear hW
            go_simp
            with_reducible rfl
          simp only [Act.put, List.setIfInBounds_toArray, List.set_cons_zero, List.set_cons_succ]
        refine way_make rfl (by rfl) (fun K hK => ?_)
        go_simp
        ((with_reducible refine (show Calls Try.prog 58 #[.slice (some ⟨g, o + 16, none⟩) 4 (c - 16)] x1 (fun e w' => e = .returned (.int .u64 (v16 : Int)) ∧ x1 = w') from by have := HNU.out 16 4 (c - 16) x1 BTc.out (by omega) (by omega); rwa [HV16.out] at this).mono ?_))
        rintro e x9 ⟨rfl, rfl⟩
        go_simp
        refine hK _ _ (fun W => Bts W w.heap.size (some ⟨g, o, none⟩) 88 b) (fun W h => h) BTc.out ?_
        clear hK K
        repeat
          refine way_pure (v := ?_) rfl (by rfl) (fun W hW => ?_) ?_
          rotate_left
          · obtain ⟨c0, c1, c2⟩ := HCE.out W hW
            obtain ⟨d2, d3, d4⟩ := D2.out
            clear hW
            go_simp
            with_reducible rfl
          simp only [Act.put, List.setIfInBounds_toArray, List.set_cons_zero, List.set_cons_succ]
        refine way_make rfl (by rfl) (fun K hK => ?_)
        go_simp
        ((with_reducible refine (show Calls Try.prog 58 #[.slice (some ⟨g, o + 20, none⟩) 4 (c - 20)] x1 (fun e w' => e = .returned (.int .u64 (v20 : Int)) ∧ x1 = w') from by have := HNU.out 20 4 (c - 20) x1 BTc.out (by omega) (by omega); rwa [HV20.out] at this).mono ?_))
        rintro e x9 ⟨rfl, rfl⟩
        go_simp
        refine hK _ _ (fun W => Bts W w.heap.size (some ⟨g, o, none⟩) 88 b) (fun W h => h) BTc.out ?_
        clear hK K
        repeat
          refine way_pure (v := ?_) rfl (by rfl) (fun W hW => ?_) ?_
          rotate_left
          · obtain ⟨c0, c1, c2⟩ := HCE.out W hW
            obtain ⟨d2, d3, d4⟩ := D2.out
            clear hW
            go_simp
            with_reducible rfl
          simp only [Act.put, List.setIfInBounds_toArray, List.set_cons_zero, List.set_cons_succ]
        refine way_make rfl (by rfl) (fun K hK => ?_)
        go_simp
        ((with_reducible refine (show Calls Try.prog 58 #[.slice (some ⟨g, o + 4, none⟩) 4 (c - 4)] x1 (fun e w' => e = .returned (.int .u64 (v4 : Int)) ∧ x1 = w') from by have := HNU.out 4 4 (c - 4) x1 BTc.out (by omega) (by omega); rwa [HV4.out] at this).mono ?_))
        rintro e x9 ⟨rfl, rfl⟩
        go_simp
        refine hK _ _ (fun W => Bts W w.heap.size (some ⟨g, o, none⟩) 88 b) (fun W h => h) BTc.out ?_
        clear hK K
        repeat
          refine way_pure (v := ?_) rfl (by rfl) (fun W hW => ?_) ?_
          rotate_left
          · obtain ⟨c0, c1, c2⟩ := HCE.out W hW
            obtain ⟨d2, d3, d4⟩ := D2.out
            clear hW
            go_simp
            with_reducible rfl
          simp only [Act.put, List.setIfInBounds_toArray, List.set_cons_zero, List.set_cons_succ]
        refine way_make rfl (by rfl) (fun K hK => ?_)
        refine wp_store8 (vs := adc ⟨⟨(v0 : Int), (v1 : Int), (v8 : Int), (v16 : Int), (v20 : Int)⟩, (v4 : Int), up, ld15 F 0⟩) rfl rfl rfl K3c.out (HIN.out _) rfl (adc_one _) ?_
        intro x6 hbs hgs hss
        have K36 := Lib.hid hbs
        have K26 := Lib.hid (K2c.out.same (hgs.block _ K2c.out.lt (fun e => by injection e with e; have := Q3.out; omega)))
        have L26 := Lib.hid (bel_upd L2c.out hgs (Nat.le_refl _) (Nat.le_of_lt Q3.out))
        have BT6 := Lib.hid (show Bts x6 w.heap.size (some ⟨g, o, none⟩) 88 b from HB.out.below L26.out)
        clear hbs hgs hss K3c K2c L2c BTc
        refine hK _ _ (fun W => Bts W w.heap.size (some ⟨g, o, none⟩) 88 b) (fun W h => h) BT6.out ?_
        clear hK K
        refine way_done ?_
        go_wp2_with fail
        go_meet
        exact ⟨q3, rfl, Q3.out, K36.out, K26.out, BT6.out, L26.out⟩
    · skip
      go_simp
      have hbl := bel_new (Below.refl x0.heap.size x0) (.cells #[.int .i64 0, .int .i64 0, .int .u64 0, .int .i64 0, .int .u32 0, .int .i64 0, .bool false, .int .u64 0, .int .u64 0, .int .u64 0, .int .u64 0, .int .u64 0, .int .u64 0, .int .u64 0, .int .u64 0] 42)
      have K3c := Lib.hid (show Blk (x0.alloc (.cells #[.int .i64 0, .int .i64 0, .int .u64 0, .int .i64 0, .int .u32 0, .int .i64 0, .bool false, .int .u64 0, .int .u64 0, .int .u64 0, .int .u64 0, .int .u64 0, .int .u64 0, .int .u64 0, .int .u64 0] 42)) x0.heap.size 42 zr15 from Blk.new x0 _ zr15)
      have K2c := Lib.hid (K2b.out.below hbl)
      have L2c := Lib.hid (L2b.out.trans (hbl.mono L2b.out.size))
      have Q3 := Lib.hid (show w.heap.size < x0.heap.size from K2b.out.lt)
      have BTc := Lib.hid (show Bts (x0.alloc (.cells #[.int .i64 0, .int .i64 0, .int .u64 0, .int .i64 0, .int .u32 0, .int .i64 0, .bool false, .int .u64 0, .int .u64 0, .int .u64 0, .int .u64 0, .int .u64 0, .int .u64 0, .int .u64 0, .int .u64 0] 42)) w.heap.size (some ⟨g, o, none⟩) 88 b from BTb.out.below (hbl.mono (Nat.le_of_lt K2b.out.lt)))
      clear hbl K2b L2b BTb
      generalize x0.alloc (.cells #[.int .i64 0, .int .i64 0, .int .u64 0, .int .i64 0, .int .u32 0, .int .i64 0, .bool false, .int .u64 0, .int .u64 0, .int .u64 0, .int .u64 0, .int .u64 0, .int .u64 0, .int .u64 0, .int .u64 0] 42) = x1 at *
      generalize x0.heap.size = q3 at *
      refine hK _ _ (fun W => Bts W w.heap.size (some ⟨g, o, none⟩) 88 b) (fun W h => h) BTc.out ?_
      clear hK K
      repeat
        refine way_pure (v := ?_) rfl (by rfl) (fun W hW => ?_) ?_
        rotate_left
        · obtain ⟨c0, c1, c2⟩ := HCE.out W hW
          obtain ⟨d2, d3, d4⟩ := D2.out
          clear hW
          go_simp
          with_reducible rfl
        simp only [Act.put, List.setIfInBounds_toArray, List.set_cons_zero, List.set_cons_succ]
      refine way_make rfl (by rfl) (fun K hK => ?_)
      go_simp
      ((with_reducible refine (show Calls Try.prog 58 #[.slice (some ⟨g, o + 8, none⟩) 8 (c - 8)] x1 (fun e w' => e = .returned (.int .u64 (v8 : Int)) ∧ x1 = w') from by have := HNU.out 8 8 (c - 8) x1 BTc.out (by omega) (by omega); rwa [HV8.out] at this).mono ?_))
      rintro e x9 ⟨rfl, rfl⟩
      go_simp
      refine hK _ _ (fun W => Bts W w.heap.size (some ⟨g, o, none⟩) 88 b) (fun W h => h) BTc.out ?_
      clear hK K
      repeat
        refine way_pure (v := ?_) rfl (by rfl) (fun W hW => ?_) ?_
        rotate_left
        · obtain ⟨c0, c1, c2⟩ := HCE.out W hW
          obtain ⟨d2, d3, d4⟩ := D2.out
          clear hW
          go_simp
          with_reducible rfl
        simp only [Act.put, List.setIfInBounds_toArray, List.set_cons_zero, List.set_cons_succ]
      refine way_make rfl (by rfl) (fun K hK => ?_)
      go_simp
      ((with_reducible refine (show Calls Try.prog 58 #[.slice (some ⟨g, o + 16, none⟩) 4 (c - 16)] x1 (fun e w' => e = .returned (.int .u64 (v16 : Int)) ∧ x1 = w') from by have := HNU.out 16 4 (c - 16) x1 BTc.out (by omega) (by omega); rwa [HV16.out] at this).mono ?_))
      rintro e x9 ⟨rfl, rfl⟩
      go_simp
      refine hK _ _ (fun W => Bts W w.heap.size (some ⟨g, o, none⟩) 88 b) (fun W h => h) BTc.out ?_
      clear hK K
      repeat
        refine way_pure (v := ?_) rfl (by rfl) (fun W hW => ?_) ?_
        rotate_left
        · obtain ⟨c0, c1, c2⟩ := HCE.out W hW
          obtain ⟨d2, d3, d4⟩ := D2.out
          clear hW
          go_simp
          with_reducible rfl
        simp only [Act.put, List.setIfInBounds_toArray, List.set_cons_zero, List.set_cons_succ]
      refine way_make rfl (by rfl) (fun K hK => ?_)
      go_simp
      ((with_reducible refine (show Calls Try.prog 58 #[.slice (some ⟨g, o + 20, none⟩) 4 (c - 20)] x1 (fun e w' => e = .returned (.int .u64 (v20 : Int)) ∧ x1 = w') from by have := HNU.out 20 4 (c - 20) x1 BTc.out (by omega) (by omega); rwa [HV20.out] at this).mono ?_))
      rintro e x9 ⟨rfl, rfl⟩
      go_simp
      refine hK _ _ (fun W => Bts W w.heap.size (some ⟨g, o, none⟩) 88 b) (fun W h => h) BTc.out ?_
      clear hK K
      repeat
        refine way_pure (v := ?_) rfl (by rfl) (fun W hW => ?_) ?_
        rotate_left
        · obtain ⟨c0, c1, c2⟩ := HCE.out W hW
          obtain ⟨d2, d3, d4⟩ := D2.out
          clear hW
          go_simp
          with_reducible rfl
        simp only [Act.put, List.setIfInBounds_toArray, List.set_cons_zero, List.set_cons_succ]
      refine way_make rfl (by rfl) (fun K hK => ?_)
      go_simp
      ((with_reducible refine (show Calls Try.prog 58 #[.slice (some ⟨g, o + 4, none⟩) 4 (c - 4)] x1 (fun e w' => e = .returned (.int .u64 (v4 : Int)) ∧ x1 = w') from by have := HNU.out 4 4 (c - 4) x1 BTc.out (by omega) (by omega); rwa [HV4.out] at this).mono ?_))
      rintro e x9 ⟨rfl, rfl⟩
      go_simp
      refine hK _ _ (fun W => Bts W w.heap.size (some ⟨g, o, none⟩) 88 b) (fun W h => h) BTc.out ?_
      clear hK K
      repeat
        refine way_pure (v := ?_) rfl (by rfl) (fun W hW => ?_) ?_
        rotate_left
        · obtain ⟨c0, c1, c2⟩ := HCE.out W hW
          obtain ⟨d2, d3, d4⟩ := D2.out
          clear hW
          go_simp
          with_reducible rfl
        simp only [Act.put, List.setIfInBounds_toArray, List.set_cons_zero, List.set_cons_succ]
      refine way_make rfl (by rfl) (fun K hK => ?_)
      refine wp_store8 (vs := adc ⟨⟨(v0 : Int), (v1 : Int), (v8 : Int), (v16 : Int), (v20 : Int)⟩, (v4 : Int), up, ld15 F 0⟩) rfl rfl rfl K3c.out (HIN.out _) rfl (adc_one _) ?_
      intro x6 hbs hgs hss
      have K36 := Lib.hid hbs
      have K26 := Lib.hid (K2c.out.same (hgs.block _ K2c.out.lt (fun e => by injection e with e; have := Q3.out; omega)))
      have L26 := Lib.hid (bel_upd L2c.out hgs (Nat.le_refl _) (Nat.le_of_lt Q3.out))
      have BT6 := Lib.hid (show Bts x6 w.heap.size (some ⟨g, o, none⟩) 88 b from HB.out.below L26.out)
      clear hbs hgs hss K3c K2c L2c BTc
      refine hK _ _ (fun W => Bts W w.heap.size (some ⟨g, o, none⟩) 88 b) (fun W h => h) BT6.out ?_
      clear hK K
      refine way_done ?_
      go_wp2_with fail
      go_meet
      exact ⟨q3, rfl, Q3.out, K36.out, K26.out, BT6.out, L26.out⟩
  case rest =>
    obtain ⟨q3, rfl, hq, hk3, hk2, hbt, hbl⟩ := hcut
    have Q3 := Lib.hid hq
    have K3 := Lib.hid hk3
    have K20 := Lib.hid hk2
    have BT0 := Lib.hid hbt
    have L0 := Lib.hid hbl
    clear hq hk3 hk2 hbt hbl K2 L2 BT
    go_wp2_with fail
    go_loopw [4] (fun s W => ∃ p : Nat, p ≤ 8 ∧ s = .int .i64 (p : Int) ∧ Blk W q3 42 (adc ⟨⟨(v0 : Int), (v1 : Int), (v8 : Int), (v16 : Int), (v20 : Int)⟩, (v4 : Int), up, ld15 F p⟩) ∧ Blk W w.heap.size 42 zr15 ∧ Below w.heap.size w W) (fun s W => 8 - (intOf s).toNat)
    case atStart => exact ⟨0, by omega, rfl, K3.out, K20.out, L0.out⟩
    case round =>
      clear K3 K20 BT0 L0
      obtain ⟨p, hp, rfl, hk3, hk2, hbl⟩ := hrel
      have K3 := Lib.hid hk3
      have K2 := Lib.hid hk2
      have L := Lib.hid hbl
      clear hk3 hk2 hbl
      by_cases hp8 : p < 8
      · have p1 : (p : Int) < 8 := by omega
        have HP8 := Lib.hid hp8
        obtain ⟨v, hv⟩ : ∃ v, F.getD p 0 = v := ⟨_, rfl⟩
        have HVV := Lib.hid hv
        have m1 : (32 : Int) + 8 * (p : Int) ≤ (c : Int) := by omega
        have hnu : ∀ cc, Calls Try.prog 58 #[.slice (some ⟨g, o + (24 + 8 * p), none⟩) 8 cc] wr fun e w' => e = .returned (.int .u64 (v : Int)) ∧ wr = w' := fun cc => by
          have := HNU.out (24 + 8 * p) 8 cc wr (HB.out.below L.out) (by omega) (by omega)
          rw [HFR.out p hp8, hv] at this
          exact this
        have HNC := Lib.hid hnu
        have y0 : wr.cell? ⟨q3, 7 + p, none⟩ = some (.int .u64 (((ld15 F p).getD p 0 : Nat) : Int)) := (K3.out.cell _).trans (adc_free _ hp8)
        have f0 := K3.out.free (7 + p)
        clear hnu hv hp8
        go_wp2_with fail
        rw [show 32 + 8 * p - (24 + 8 * p) = 8 by omega]
        ((with_reducible refine (HNC.out _).mono ?_))
        rintro e w9 ⟨rfl, rfl⟩
        go_wp2_with fail
        go_roundw
        case rel =>
          refine ⟨p + 1, by have := HP8.out; omega, by first | rfl | (simp; omega), ?_, ?_, ?_⟩
          · have := K3.out.set (7 + p) (.int .u64 (v : Int))
            rw [← adc_set _ _ _ (ld15_length HFL.out (by have := HP8.out; omega)) HP8.out v, ← HVV.out, ld15_set HFL.out HP8.out] at this
            rw [← HVV.out]
            exact this
          · exact K2.out.other (p := ⟨q3, 7 + p, none⟩) (by have := Q3.out; simp only; omega) _
          · exact L.out.setCell (p := ⟨q3, 7 + p, none⟩) (show w.heap.size ≤ q3 from Nat.le_of_lt Q3.out) _
        case measure => have := HP8.out; simp [intOf]; omega
      · obtain rfl : p = 8 := by omega
        clear hp hp8
        have hX : adc ⟨⟨(v0 : Int), (v1 : Int), (v8 : Int), (v16 : Int), (v20 : Int)⟩, (v4 : Int), up, ld15 F 8⟩ = adc X := by
          rw [ld15_all HFL.out, HI.out]
        have hk := K3.out
        rw [hX] at hk
        have HK := Lib.hid hk
        clear hX hk K3
        go_wp2_with (first | ((with_reducible refine step_load (o := ⟨some 50, _, _, _, _, _⟩) (x := .tmp 3) ?_ ?_ ?_ HK.out Try.underlying42 ?_ (HIN.out X) ?_); (rfl); (rfl); (rfl); (rfl)) | ((with_reducible refine step_store (o := ⟨none, _, _, _, _, _⟩) (vs := adc X) (ty := 42) (x := .tmp 2) (y := .tmp 50) ?_ ?_ ?_ ?_ K2.out (HIN.out X) rfl (adc_one _) ?_); (rfl); (rfl); (rfl); (rfl); intro w4 hb5 hg5 hs5))
        refine bodyPost_ret (v := .agg (adc X).toArray) (results_one8 rfl _ rfl hb5 Try.underlying42 rfl (HIN.out X)) rfl ?_
        exact ⟨rfl, bel_upd L.out hg5 (Nat.le_refl _) (by omega)⟩
end Go.Proofs.Ytmfmjdkeoiebpaa
