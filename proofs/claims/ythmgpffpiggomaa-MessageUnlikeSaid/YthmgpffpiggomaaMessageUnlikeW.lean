/-
  The statement MessageUnlike, walked. Condition: the messages' lists read as numbers.
-/
import Derived.Test.YthmgpffpiggomaaMsgU
namespace Go.Proofs.Ythmgpffpiggomaa
open Go.RowKit

set_option maxRecDepth 100000 in
set_option maxHeartbeats 6400000 in
theorem unlike8_walk (M M2 : Ms) (w : World) (hm : FineM w w.heap.size M) (hm2 : FineM w w.heap.size M2) : Calls Try.prog 5 #[.agg M.cells.toArray, .agg M2.cells.toArray] w (SamePost w true) := by
  have h2 := two8_new w 30 30 M.cells M2.cells
  have HB0 := Lib.hid h2.1
  have HC0 := Lib.hid h2.2.1
  have HL0 := Lib.hid h2.2.2
  have HM := Lib.hid hm
  have HM2 := Lib.hid hm2
  clear hm hm2 h2
  go_enter Try.func5, Try.ntmps5
  go_upto_region 1 with fail
  revert HB0 HC0 HL0
  generalize World.alloc (World.alloc w _) _ = w1
  intro HB0 HC0 HL0
  go_wp2_with fail
  ((with_reducible refine (alive8_calls w1).mono ?_))
  rintro e w2 ⟨rfl, hb⟩
  have HB2 := Lib.hid (HB0.out.below hb)
  have HC2 := Lib.hid (HC0.out.below hb)
  have HL2 := Lib.hid (bel_more HL0.out (Nat.le_refl _) hb)
  clear hb HB0 HC0 HL0
  have HFT := Lib.hid (fits8_calls M w2 HM.out.len HM.out.len2)
  go_wp2_with (refine step_load (o := ⟨some 11, _, _, _, _, _⟩) rfl rfl rfl HB2.out Try.underlying30 rfl rfl ?_)
  ((with_reducible refine HFT.out.mono ?_))
  rintro e w3 ⟨rfl, hb⟩
  have HB3 := Lib.hid (HB2.out.below hb)
  have HC3 := Lib.hid (HC2.out.below hb)
  have HL3 := Lib.hid (bel_more HL2.out (Nat.le_refl _) hb)
  clear hb HB2 HC2 HL2 HFT
  cases hd : decide (M.rn ≤ 6000 ∧ M.on ≤ 6000) with
  | false =>
    clear hd
    go_wp2
    go_ret
    exact ⟨rfl, HL3.out⟩
  | true =>
    clear hd
    have HFT := Lib.hid (fits8_calls M2 w3 HM2.out.len HM2.out.len2)
    go_wp2_with (refine step_load_want (o := ⟨some 15, _, _, _, _, _⟩) rfl rfl rfl HC3.out Try.underlying30 rfl rfl ?_)
    ((with_reducible refine HFT.out.mono ?_))
    rintro e w4 ⟨rfl, hb⟩
    have HB4 := Lib.hid (HB3.out.below hb)
    have HC4 := Lib.hid (HC3.out.below hb)
    have HL4 := Lib.hid (bel_more HL3.out (Nat.le_refl _) hb)
    clear hb HB3 HC3 HL3 HFT
    cases hd : decide (M2.rn ≤ 6000 ∧ M2.on ≤ 6000) with
    | false =>
      clear hd
      go_wp2
      go_ret
      exact ⟨rfl, HL4.out⟩
    | true =>
      clear hd
      go_wp2_with (refine step_load (o := ⟨some 20, _, _, _, _, _⟩) rfl rfl rfl HB4.out Try.underlying30 rfl rfl ?_)
      ((with_reducible refine (theirs8_calls M w4).mono ?_))
      rintro e w5 ⟨rfl, hb⟩
      have HB5 := Lib.hid (HB4.out.below hb)
      have HC5 := Lib.hid (HC4.out.below hb)
      have HL5 := Lib.hid (bel_more HL4.out (Nat.le_refl _) hb)
      clear hb HB4 HC4 HL4
      have HEN := Lib.hid (encode8_calls M w5 ((HM.out.below HL5.out).more HL5.out.size))
      go_wp2_with fail
      ((with_reducible refine HEN.out.mono ?_))
      intro e w6 hp
      obtain ⟨b, A, c, er, rfl, ha, hb, hcase⟩ := hp.told
      have HB6 := Lib.hid (HB5.out.below hb)
      have HC6 := Lib.hid (HC5.out.below hb)
      have HL6 := Lib.hid (bel_more HL5.out (Nat.le_refl _) hb)
      have HT6 := Lib.hid ha.bts
      have HCASE := Lib.hid hcase
      clear hp ha hb hcase HB5 HC5 HL5 HEN
      go_wp2_with (refine step_load (o := ⟨some 26, _, _, _, _, _⟩) rfl rfl rfl HC6.out Try.underlying30 rfl rfl ?_)
      ((with_reducible refine (theirs8_calls M2 w6).mono ?_))
      rintro e w7 ⟨rfl, hb⟩
      have HB7 := Lib.hid (HB6.out.below hb)
      have HC7 := Lib.hid (HC6.out.below hb)
      have HL7 := Lib.hid (bel_more HL6.out (Nat.le_refl _) hb)
      have HT7 := Lib.hid (HT6.out.below hb)
      have HS7 := Lib.hid hb.size
      clear hb HB6 HC6 HL6 HT6
      have HEN := Lib.hid (encode8_calls M2 w7 ((HM2.out.below HL7.out).more HL7.out.size))
      go_wp2_with fail
      ((with_reducible refine HEN.out.mono ?_))
      intro e w8 hp
      obtain ⟨b2, A2, c2, er2, rfl, ha, hb, hcase⟩ := hp.told
      have HB8 := Lib.hid (HB7.out.below hb)
      have HC8 := Lib.hid (HC7.out.below hb)
      have HL8 := Lib.hid (bel_more HL7.out (Nat.le_refl _) hb)
      have HZ6 := Lib.hid (Nat.le_trans HS7.out hb.size)
      have HT8 := Lib.hid (HT7.out.below (hb.mono HS7.out))
      have HU8 := Lib.hid ha.bts
      have HCASE2 := Lib.hid hcase
      clear hp ha hb hcase HB7 HC7 HL7 HT7 HS7 HEN
      by_cases h0 : er = 0
      · by_cases h02 : er2 = 0
        · subst h0
          subst h02
          have hen : mEnc M.val = some b := by
            rcases HCASE.out with ⟨_, h⟩ | ⟨h, _⟩
            · exact h
            · omega
          have hen2 : mEnc M2.val = some b2 := by
            rcases HCASE2.out with ⟨_, h⟩ | ⟨h, _⟩
            · exact h
            · omega
          have hq : (b == b2) = M.val.same M2.val := by
            cases hs : M.val.same M2.val with
            | true =>
              have e := (PMs.same_iff _ _).1 hs
              rw [e, hen2] at hen
              injection hen with hen
              simp [hen]
            | false =>
              have hne : ¬ b = b2 := by
                intro e
                rw [e] at hen
                have e2 := mEnc_inj hen hen2
                rw [(PMs.same_iff _ _).2 e2] at hs
                cases hs
              simpa using hne
          have HQ := Lib.hid hq
          have hsm : ∀ W, Below w.heap.size w W → Calls Try.prog 12 #[.agg M.cells.toArray, .agg M2.cells.toArray] W (SamePost W (M.val.same M2.val)) := fun W hW => rsame8_calls M M2 w.heap.size w.heap.size W (HM.out.below hW) (HM2.out.below hW) hW.size hW.size
          have HSM := Lib.hid (hsm w8.drew (bel_drewN HL8.out 1))
          rw [← hq] at HSM
          clear hen hen2 hq hsm HCASE HCASE2
          have HS := Lib.hid (show Bts w8 w6.heap.size A b.length b ∧ Bts w8 w8.heap.size A2 b2.length b2 ∧ Blk w8 w.heap.size 30 M.cells ∧ Blk w8 (w.heap.size + 1) 30 M2.cells from ⟨HT8.out, HU8.out, HB8.out, HC8.out⟩)
          generalize hnb : b.length = nb at *
          generalize hnb2 : b2.length = nb2 at *
          have HNB := Lib.hid hnb
          have HNB2 := Lib.hid hnb2
          clear hnb hnb2
          have hem : (b == b2) = true ∨ (b == b2) = false := by cases (b == b2) <;> simp
          rcases hem with hbq | hbq
          · obtain rfl : b = b2 := by simpa using hbq
            rw [hbq] at HSM
            clear hbq
            go_wp2_with fail
            refine region_seq (fun W => Bts W w6.heap.size A nb b ∧ Bts W w8.heap.size A2 nb2 b ∧ Blk W w.heap.size 30 M.cells ∧ Blk W (w.heap.size + 1) 30 M2.cells)
              [(0, true), (1, true), (2, true), (3, true), (4, true), (5, true), (6, true), (7, true), (8, true), (9, true), (10, true), (11, true), (12, true), (13, true), (14, false), (15, true), (16, true), (17, true)]
              (by kernel_rfl) (by kernel_rfl) (by kernel_rfl) (by kernel_rfl) (fun _ _ _ _ _ h => h) HS.out ?_
            repeat
              first
              | (refine seq_load8 (g := w.heap.size) rfl (by rfl) rfl rfl (fun W hW => hW.2.2.1) Try.underlying30 rfl rfl ?_
                 simp only [Act.put, List.setIfInBounds_toArray, List.set_cons_zero, List.set_cons_succ])
              | (refine seq_load8 (g := w.heap.size + 1) rfl (by rfl) rfl rfl (fun W hW => hW.2.2.2) Try.underlying30 rfl rfl ?_
                 simp only [Act.put, List.setIfInBounds_toArray, List.set_cons_zero, List.set_cons_succ])
              | (refine seq_pure (v := ?_) rfl (by rfl) (fun W hW => ?_) ?_
                 rotate_left
                 · obtain ⟨t1, t2, _, _⟩ := hW
                   have s1 := t1.text (P := Try.prog) (c := c) 31 5 9 Try.underlying31 Try.underlying5 Try.underlying9
                   have s2 := t2.text (P := Try.prog) (c := c2) 31 5 9 Try.underlying31 Try.underlying5 Try.underlying9
                   clear t1 t2
                   go_simp
                   try with_reducible rfl
                 simp only [Act.put, List.setIfInBounds_toArray, List.set_cons_zero, List.set_cons_succ])
            refine seq_make rfl (by rfl) (fun K hK => ?_)
            go_simp
            ((with_reducible refine HSM.out.mono ?_))
            rintro e w9 ⟨rfl, hb9⟩
            have HL9 := Lib.hid (bel_more (bel_drewN HL8.out 1) (Nat.le_refl _) hb9)
            have HS9 := Lib.hid (show Bts w9 w6.heap.size A nb b ∧ Bts w9 w8.heap.size A2 nb2 b ∧ Blk w9 w.heap.size 30 M.cells ∧ Blk w9 (w.heap.size + 1) 30 M2.cells from ⟨HS.out.1.below (below_of_drew hb9 |>.mono HZ6.out), HS.out.2.1.below (below_of_drew hb9), HS.out.2.2.1.below (below_of_drew hb9), HS.out.2.2.2.below (below_of_drew hb9)⟩)
            clear hb9
            go_simp
            refine hK _ w9 _ (fun W h => h) HS9.out ?_
            clear hK K HSM
            repeat
              refine seq_pure (v := ?_) rfl (by rfl) (fun W hW => ?_) ?_
              rotate_left
              · clear hW
                go_simp
                try with_reducible rfl
              simp only [Act.put, List.setIfInBounds_toArray, List.set_cons_zero, List.set_cons_succ]
            refine seq_done ?_
            go_wp2
            go_ret
            exact ⟨rfl, HL9.out⟩
          · rw [hbq] at HSM
            go_wp2_with fail
            refine region_seq (fun W => Bts W w6.heap.size A nb b ∧ Bts W w8.heap.size A2 nb2 b2 ∧ Blk W w.heap.size 30 M.cells ∧ Blk W (w.heap.size + 1) 30 M2.cells)
              [(0, true), (1, true), (2, true), (3, true), (4, true), (5, true), (6, true), (7, true), (8, true), (9, true), (10, true), (11, true), (12, true), (13, true), (14, false), (15, true), (16, true), (17, true)]
              (by kernel_rfl) (by kernel_rfl) (by kernel_rfl) (by kernel_rfl) (fun _ _ _ _ _ h => h) HS.out ?_
            repeat
              first
              | (refine seq_load8 (g := w.heap.size) rfl (by rfl) rfl rfl (fun W hW => hW.2.2.1) Try.underlying30 rfl rfl ?_
                 simp only [Act.put, List.setIfInBounds_toArray, List.set_cons_zero, List.set_cons_succ])
              | (refine seq_load8 (g := w.heap.size + 1) rfl (by rfl) rfl rfl (fun W hW => hW.2.2.2) Try.underlying30 rfl rfl ?_
                 simp only [Act.put, List.setIfInBounds_toArray, List.set_cons_zero, List.set_cons_succ])
              | (refine seq_pure (v := ?_) rfl (by rfl) (fun W hW => ?_) ?_
                 rotate_left
                 · obtain ⟨t1, t2, _, _⟩ := hW
                   have s1 := t1.text (P := Try.prog) (c := c) 31 5 9 Try.underlying31 Try.underlying5 Try.underlying9
                   have s2 := t2.text (P := Try.prog) (c := c2) 31 5 9 Try.underlying31 Try.underlying5 Try.underlying9
                   clear t1 t2
                   go_simp
                   try with_reducible rfl
                 simp only [Act.put, List.setIfInBounds_toArray, List.set_cons_zero, List.set_cons_succ])
            refine seq_make rfl (by rfl) (fun K hK => ?_)
            go_simp
            ((with_reducible refine HSM.out.mono ?_))
            rintro e w9 ⟨rfl, hb9⟩
            have HL9 := Lib.hid (bel_more (bel_drewN HL8.out 1) (Nat.le_refl _) hb9)
            have HS9 := Lib.hid (show Bts w9 w6.heap.size A nb b ∧ Bts w9 w8.heap.size A2 nb2 b2 ∧ Blk w9 w.heap.size 30 M.cells ∧ Blk w9 (w.heap.size + 1) 30 M2.cells from ⟨HS.out.1.below (below_of_drew hb9 |>.mono HZ6.out), HS.out.2.1.below (below_of_drew hb9), HS.out.2.2.1.below (below_of_drew hb9), HS.out.2.2.2.below (below_of_drew hb9)⟩)
            clear hb9
            go_simp
            refine hK _ w9 _ (fun W h => h) HS9.out ?_
            clear hK K HSM
            repeat
              refine seq_pure (v := ?_) rfl (by rfl) (fun W hW => ?_) ?_
              rotate_left
              · clear hW
                go_simp
                try with_reducible rfl
              simp only [Act.put, List.setIfInBounds_toArray, List.set_cons_zero, List.set_cons_succ]
            refine seq_done ?_
            go_wp2
            go_ret
            exact ⟨rfl, HL9.out⟩
        · have h02' : (er2 != 0) = true := by simpa using h02
          subst h0
          clear HCASE HCASE2
          go_wp2_with fail
          refine region_seq (fun _ => True)
            [(0, true), (1, true), (2, true), (3, true), (4, true), (5, true), (6, true), (7, true), (8, true), (9, true), (10, true), (11, true), (12, true), (13, true), (14, true), (15, true), (16, true), (17, true)]
            (by kernel_rfl) (by kernel_rfl) (by kernel_rfl) (by kernel_rfl) (fun _ _ _ _ _ h => h) trivial ?_
          repeat
            first
            | (refine seq_pure (v := ?_) rfl (by rfl) (fun W hW => ?_) ?_
               rotate_left
               · clear hW
                 go_simp
                 try with_reducible rfl
               simp only [Act.put, List.setIfInBounds_toArray, List.set_cons_zero, List.set_cons_succ])
            | (refine seq_skip rfl (by rfl) ?_
               simp only [Act.put, List.setIfInBounds_toArray, List.set_cons_zero, List.set_cons_succ])
          refine seq_done ?_
          go_wp2
          go_ret
          exact ⟨rfl, bel_drewN HL8.out 1⟩
      · have h0' : (er != 0) = true := by simpa using h0
        clear HCASE HCASE2
        go_wp2_with fail
        refine region_seq (fun _ => True)
          [(0, true), (1, true), (2, true), (3, true), (4, true), (5, true), (6, true), (7, true), (8, true), (9, true), (10, true), (11, true), (12, true), (13, true), (14, true), (15, true), (16, true), (17, true)]
          (by kernel_rfl) (by kernel_rfl) (by kernel_rfl) (by kernel_rfl) (fun _ _ _ _ _ h => h) trivial ?_
        repeat
          first
          | (refine seq_pure (v := ?_) rfl (by rfl) (fun W hW => ?_) ?_
             rotate_left
             · clear hW
               go_simp
               try with_reducible rfl
             simp only [Act.put, List.setIfInBounds_toArray, List.set_cons_zero, List.set_cons_succ])
          | (refine seq_skip rfl (by rfl) ?_
             simp only [Act.put, List.setIfInBounds_toArray, List.set_cons_zero, List.set_cons_succ])
        refine seq_done ?_
        go_wp2
        go_ret
        exact ⟨rfl, bel_drewN HL8.out 1⟩
end Go.Proofs.Ythmgpffpiggomaa
