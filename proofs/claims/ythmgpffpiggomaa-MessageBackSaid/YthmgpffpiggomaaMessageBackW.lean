/-
  The statement MessageBack, walked. Condition: the message's lists read as numbers, the bytes as a list.
-/
import Derived.Test.YthmgpffpiggomaaMsgU
namespace Go.Proofs.Ythmgpffpiggomaa
open Go.RowKit

set_option maxRecDepth 100000 in
set_option maxHeartbeats 6400000 in
theorem back8_walk (M : Ms) (a : Option Addr) (n c : Nat) (b : List UInt8) (w : World) (hm : FineM w w.heap.size M) (ht : Bts w w.heap.size a n b) (hnc : n ≤ c) (hcm : c ≤ maxLen) : Calls Try.prog 3 #[.agg M.cells.toArray, .slice a n c] w (SamePost w true) := by
  have HB0 := Lib.hid (Blk.new w 30 M.cells)
  have HL0 := Lib.hid (bel_new (Below.refl _ w) (.cells M.cells.toArray 30))
  have HM := Lib.hid hm
  have HT := Lib.hid ht
  have HCM := Lib.hid hcm
  have hnm : n ≤ 9223372036854775807 := by unfold maxLen at hcm; omega
  clear hm ht hcm
  go_enter Try.func3, Try.ntmps3
  go_upto_region 1 with fail
  revert HB0 HL0
  generalize World.alloc w _ = w1
  intro HB0 HL0
  go_wp2_with fail
  ((with_reducible refine (alive8_calls w1).mono ?_))
  rintro e w2 ⟨rfl, hb⟩
  have HB2 := Lib.hid (HB0.out.below hb)
  have HL2 := Lib.hid (bel_more HL0.out (Nat.le_refl _) hb)
  clear hb HB0 HL0
  have HFT := Lib.hid (fits8_calls M w2 HM.out.len HM.out.len2)
  go_wp2_with (refine step_load (o := ⟨some 15, _, _, _, _, _⟩) rfl rfl rfl HB2.out Try.underlying30 rfl rfl ?_)
  ((with_reducible refine HFT.out.mono ?_))
  rintro e w3 ⟨rfl, hb⟩
  have HB3 := Lib.hid (HB2.out.below hb)
  have HL3 := Lib.hid (bel_more HL2.out (Nat.le_refl _) hb)
  clear hb HB2 HL2 HFT
  cases hd : decide (M.rn ≤ 6000 ∧ M.on ≤ 6000) with
  | false =>
    clear hd
    go_wp2
    go_ret
    exact ⟨rfl, HL3.out⟩
  | true =>
    clear hd
    by_cases hn6 : 6000 < n
    · go_wp2
      go_ret
      exact ⟨rfl, HL3.out⟩
    · go_wp2_with (refine step_load (o := ⟨some 24, _, _, _, _, _⟩) rfl rfl rfl HB3.out Try.underlying30 rfl rfl ?_)
      ((with_reducible refine (theirs8_calls M w3).mono ?_))
      rintro e w4 ⟨rfl, hb⟩
      have HB4 := Lib.hid (HB3.out.below hb)
      have HL4 := Lib.hid (bel_more HL3.out (Nat.le_refl _) hb)
      clear hb HB3 HL3
      have HEN := Lib.hid (encode8_calls M w4 ((HM.out.below HL4.out).more HL4.out.size))
      go_wp2_with fail
      ((with_reducible refine HEN.out.mono ?_))
      intro e w5 hp
      obtain ⟨x, A, cx, er, rfl, ha, hb, hcase⟩ := hp.told
      have HB5 := Lib.hid (HB4.out.below hb)
      have HL5 := Lib.hid (bel_more HL4.out (Nat.le_refl _) hb)
      have HA5 := Lib.hid ha
      have HCASE := Lib.hid hcase
      clear hp ha hb hcase HB4 HL4 HEN
      by_cases h0 : er = 0
      · subst h0
        have hen : mEnc M.val = some x := by
          rcases HCASE.out with ⟨_, h⟩ | ⟨h, _⟩
          · exact h
          · omega
        have HDE := Lib.hid (mDec_back hen)
        have hcap := HA5.out.cap
        have hmx : cx ≤ maxLen := by
          rcases HA5.out.2 with ⟨hv, h0⟩ | ⟨g, cap, cur, hv, _, _, _, hm, _⟩
          · injection hv with _ _ e; subst e; exact Nat.zero_le _
          · injection hv with _ _ e; subst e; exact hm
        have HDC := Lib.hid (decode8_calls A x.length cx x w5 HA5.out.bts hcap hmx)
        clear hen hcap hmx HCASE HA5
        go_wp2_with fail
        ((with_reducible refine HDC.out.mono ?_))
        intro e w6 hp
        obtain ⟨m, er2, rfl, hlm, hb, hcase⟩ := hp.told
        obtain ⟨rfl, hmv⟩ : er2 = 0 ∧ m.val = M.val := by
          rcases hcase with ⟨h0, hy⟩ | ⟨_, _, hno⟩
          · rw [HDE.out] at hy
            injection hy with hy
            exact ⟨h0, hy.symm⟩
          · rw [HDE.out] at hno; cases hno
        have HB6 := Lib.hid (HB5.out.below hb)
        have HL6 := Lib.hid (bel_more HL5.out (Nat.le_refl _) hb)
        have HLM := Lib.hid hlm
        have HMV := Lib.hid hmv
        have hZ := Blk.new w6 37 (Ms.bare 0 0).cells
        clear hp hb hcase hlm hmv HDC HDE HB5 HL5
        go_upto_region 8 with (refine step_store (o := ⟨none, _, _, _, _, _⟩) (vs := m.cells) rfl rfl rfl rfl hZ rfl rfl (ms_one _) ?_; intro w7 hb7 hg7 hs7)
        have hl7 : Below w6.heap.size w6 w7 := bel_upd (bel_new (Below.refl w6.heap.size w6) _) hg7 (Nat.le_refl _) (Nat.le_refl _)
        have HB7 := Lib.hid (HB6.out.below hl7)
        have HN7 := Lib.hid hb7
        have HL7 := Lib.hid (bel_more HL6.out (Nat.le_refl _) hl7)
        have HLM7 := Lib.hid (HLM.out.bel hl7)
        obtain ⟨q, hq⟩ : ∃ q, q = w6.heap.size := ⟨_, rfl⟩
        rw [← hq] at HN7 ⊢
        clear hb7 hg7 hs7 hl7 hZ HLM HB6 HL6 hq
        have HS := Lib.hid (show Blk w7 q 37 m.cells ∧ Blk w7 w.heap.size 30 M.cells from ⟨HN7.out, HB7.out⟩)
        refine region_seq (fun W => Blk W q 37 m.cells ∧ Blk W w.heap.size 30 M.cells)
          [(0, true), (1, true), (2, true), (3, true), (5, true), (4, false), (6, false), (7, true), (8, true)]
          (by kernel_rfl) (by kernel_rfl) (by kernel_rfl) (by kernel_rfl) (fun _ _ _ _ _ h => h) HS.out ?_
        repeat
          first
          | (refine seq_load8 (g := q) rfl (by rfl) rfl rfl (fun W hW => hW.1) Try.underlying37 rfl rfl ?_
             simp only [Act.put, List.setIfInBounds_toArray, List.set_cons_zero, List.set_cons_succ])
          | (refine seq_load8 (g := w.heap.size) rfl (by rfl) rfl rfl (fun W hW => hW.2) Try.underlying30 rfl rfl ?_
             simp only [Act.put, List.setIfInBounds_toArray, List.set_cons_zero, List.set_cons_succ])
          | (refine seq_pure (v := ?_) rfl (by rfl) (fun W hW => ?_) ?_
             rotate_left
             · clear hW
               go_simp
               try with_reducible rfl
             simp only [Act.put, List.setIfInBounds_toArray, List.set_cons_zero, List.set_cons_succ])
        refine seq_make rfl (by rfl) (fun K hK => ?_)
        go_simp
        ((with_reducible refine (ours8_calls m w7.drew).mono ?_))
        rintro e w8 ⟨rfl, hb⟩
        have hb' := below_of_drew hb
        have HS8 := Lib.hid (show Blk w8 q 37 m.cells ∧ Blk w8 w.heap.size 30 M.cells from ⟨HS.out.1.below hb', HS.out.2.below hb'⟩)
        have HL8 := Lib.hid (bel_more HL7.out (Nat.le_refl _) hb')
        have HLM8 := Lib.hid (HLM7.out.bel hb')
        clear hb hb'
        go_simp
        refine hK _ w8 _ (fun W h => h) HS8.out ?_
        clear hK K HS HB7 HN7 HL7 HLM7
        refine seq_make rfl (by rfl) (fun K hK => ?_)
        go_simp
        have HSM := Lib.hid (rsame8_calls m M w8.heap.size w.heap.size w8 HLM8.out.fine (HM.out.below HL8.out) (Nat.le_refl _) HL8.out.size)
        rw [HMV.out, (PMs.same_iff M.val M.val).2 rfl] at HSM
        ((with_reducible refine HSM.out.mono ?_))
        rintro e w9 ⟨rfl, hb⟩
        have HS9 := Lib.hid (show Blk w9 q 37 m.cells ∧ Blk w9 w.heap.size 30 M.cells from ⟨HS8.out.1.below hb, HS8.out.2.below hb⟩)
        have HL9 := Lib.hid (bel_more HL8.out (Nat.le_refl _) hb)
        clear hb HSM
        go_simp
        refine hK _ w9 _ (fun W h => h) HS9.out ?_
        clear hK K HS8 HL8 HLM8
        repeat
          refine seq_pure (v := ?_) rfl (by rfl) (fun W hW => ?_) ?_
          rotate_left
          · clear hW
            go_simp
            try with_reducible rfl
          simp only [Act.put, List.setIfInBounds_toArray, List.set_cons_zero, List.set_cons_succ]
        refine seq_done ?_
        clear HS9 HMV
        have HDC2 := Lib.hid (decode8_calls a n c b w9 ((HT.out.below HL9.out).more HL9.out.size) hnc HCM.out)
        go_wp2_with fail
        ((with_reducible refine HDC2.out.mono ?_))
        intro e u7 hp
        obtain ⟨m3, er3, rfl, hlm, hb, hcase⟩ := hp.told
        have HLu := Lib.hid (bel_more HL9.out (Nat.le_refl _) hb)
        have HCASE3 := Lib.hid hcase
        have HLM := Lib.hid hlm
        have hZ := Blk.new u7 37 (Ms.bare 0 0).cells
        clear hp hb hcase hlm HDC2
        go_upto_region 11 with (refine step_store (o := ⟨none, _, _, _, _, _⟩) (vs := m3.cells) rfl rfl rfl rfl hZ rfl rfl (ms_one _) ?_; intro u8 hb8 hg8 hs8)
        have hl8 : Below u7.heap.size u7 u8 := bel_upd (bel_new (Below.refl u7.heap.size u7) _) hg8 (Nat.le_refl _) (Nat.le_refl _)
        have HBu := Lib.hid hb8
        have HLv := Lib.hid (bel_more HLu.out (Nat.le_refl _) hl8)
        have HLM8 := Lib.hid (HLM.out.bel hl8)
        clear hb8 hg8 hs8 hl8 hZ HLM HLu
        by_cases h03 : er3 = 0
        · subst h03
          have hde : mDec b = some m3.val := by
            rcases HCASE3.out with ⟨_, h⟩ | ⟨h, _⟩
            · exact h
            · exact absurd rfl h
          have HOWN := Lib.hid (mDec_own hde).1
          have HEN3 := Lib.hid (encode8_calls m3 u8 HLM8.out.fine)
          clear hde HCASE3
          go_wp2_with (refine step_load (o := ⟨some 53, _, _, _, _, _⟩) rfl rfl rfl HBu.out Try.underlying37 rfl rfl ?_)
          ((with_reducible refine HEN3.out.mono ?_))
          intro e u9 hp
          obtain ⟨A4, c4, rfl, ha, hb⟩ := hp.yes HOWN.out
          have HLx := Lib.hid (bel_more HLv.out (Nat.le_refl _) hb)
          have s1 := ha.bts.text (P := Try.prog) (c := c4) 31 5 9 Try.underlying31 Try.underlying5 Try.underlying9
          have s2 := (HT.out.below HLx.out).text (P := Try.prog) (c := c) 31 5 9 Try.underlying31 Try.underlying5 Try.underlying9
          clear hp ha hb HEN3 HBu HLv HLM8
          go_wp2
          go_ret
          exact ⟨rfl, HLx.out⟩
        · have h03' : (er3 != 0) = true := by simpa using h03
          have h03'' : (er3 == 0) = false := by rw [beq_eq_false_iff_ne]; exact h03
          clear HCASE3
          go_wp2
          go_ret
          exact ⟨rfl, HLv.out⟩
      · have h0' : (er != 0) = true := by simpa using h0
        have h0'' : (er == 0) = false := by rw [beq_eq_false_iff_ne]; exact h0
        clear HCASE HB5 HA5
        have HDC2 := Lib.hid (decode8_calls a n c b w5 ((HT.out.below HL5.out).more HL5.out.size) hnc HCM.out)
        go_wp2_with fail
        ((with_reducible refine HDC2.out.mono ?_))
        intro e u7 hp
        obtain ⟨m3, er3, rfl, hlm, hb, hcase⟩ := hp.told
        have HLu := Lib.hid (bel_more HL5.out (Nat.le_refl _) hb)
        have HCASE3 := Lib.hid hcase
        have HLM := Lib.hid hlm
        have hZ := Blk.new u7 37 (Ms.bare 0 0).cells
        clear hp hb hcase hlm HDC2
        go_upto_region 11 with (refine step_store (o := ⟨none, _, _, _, _, _⟩) (vs := m3.cells) rfl rfl rfl rfl hZ rfl rfl (ms_one _) ?_; intro u8 hb8 hg8 hs8)
        have hl8 : Below u7.heap.size u7 u8 := bel_upd (bel_new (Below.refl u7.heap.size u7) _) hg8 (Nat.le_refl _) (Nat.le_refl _)
        have HBu := Lib.hid hb8
        have HLv := Lib.hid (bel_more HLu.out (Nat.le_refl _) hl8)
        have HLM8 := Lib.hid (HLM.out.bel hl8)
        clear hb8 hg8 hs8 hl8 hZ HLM HLu
        by_cases h03 : er3 = 0
        · subst h03
          have hde : mDec b = some m3.val := by
            rcases HCASE3.out with ⟨_, h⟩ | ⟨h, _⟩
            · exact h
            · exact absurd rfl h
          have HOWN := Lib.hid (mDec_own hde).1
          have HEN3 := Lib.hid (encode8_calls m3 u8 HLM8.out.fine)
          clear hde HCASE3
          go_wp2_with (refine step_load (o := ⟨some 53, _, _, _, _, _⟩) rfl rfl rfl HBu.out Try.underlying37 rfl rfl ?_)
          ((with_reducible refine HEN3.out.mono ?_))
          intro e u9 hp
          obtain ⟨A4, c4, rfl, ha, hb⟩ := hp.yes HOWN.out
          have HLx := Lib.hid (bel_more HLv.out (Nat.le_refl _) hb)
          have s1 := ha.bts.text (P := Try.prog) (c := c4) 31 5 9 Try.underlying31 Try.underlying5 Try.underlying9
          have s2 := (HT.out.below HLx.out).text (P := Try.prog) (c := c) 31 5 9 Try.underlying31 Try.underlying5 Try.underlying9
          clear hp ha hb HEN3 HBu HLv HLM8
          go_wp2
          go_ret
          exact ⟨rfl, HLx.out⟩
        · have h03' : (er3 != 0) = true := by simpa using h03
          have h03'' : (er3 == 0) = false := by rw [beq_eq_false_iff_ne]; exact h03
          clear HCASE3
          go_wp2
          go_ret
          exact ⟨rfl, HLv.out⟩

theorem back8_walk_o (M : Ms) (a : Option Addr) (n c : Nat) (w : World) (hm : FineM w w.heap.size M) (ht : n ≤ maxLen ∧ ∃ l, Bts w w.heap.size a n l) (hc : n ≤ c ∧ c ≤ maxLen) : Calls Try.prog 3 #[.agg M.cells.toArray, .slice a n c] w (SamePost w true) := by
  obtain ⟨_, b, hb⟩ := ht
  exact back8_walk M a n c b w hm hb hc.1 hc.2
end Go.Proofs.Ythmgpffpiggomaa
