/-
  Contracts of layer 8's fits and alive. No condition.
-/
import Derived.Test.YthmgpffpiggomaaMsgQ
namespace Go.Proofs.Ythmgpffpiggomaa
open Go.RowKit

theorem fits8_calls (M : Ms) (w : World) (h1 : M.rn ≤ maxLen) (h2 : M.on ≤ maxLen) : Calls Try.prog 8 #[.agg M.cells.toArray] w (SamePost w (decide (M.rn ≤ 6000 ∧ M.on ≤ 6000))) := by
  unfold maxLen at h1 h2
  have HB0 := Lib.hid (Blk.new w 30 M.cells)
  have HL0 := Lib.hid (bel_new (Below.refl _ w) (.cells M.cells.toArray 30))
  go_enter Try.func8, Try.ntmps8
  go_upto_region 1 with fail
  revert HB0 HL0
  generalize World.alloc w _ = w1
  intro HB0 HL0
  have x15 : w1.cell? ⟨w.heap.size, 15, none⟩ = some (.slice M.ra M.rn M.rc) := HB0.out.cell 15
  have x16 : w1.cell? ⟨w.heap.size, 16, none⟩ = some (.slice M.oa M.on M.oc) := HB0.out.cell 16
  clear HB0
  by_cases k1 : M.rn ≤ 6000
  · have hd := Lib.hid (show decide ((M.on : Int) ≤ 6000) = decide (M.rn ≤ 6000 ∧ M.on ≤ 6000) by
      by_cases k2 : M.on ≤ 6000
      · rw [decide_eq_true (show M.rn ≤ 6000 ∧ M.on ≤ 6000 from ⟨k1, k2⟩), decide_eq_true (by omega)]
      · rw [decide_eq_false (fun h : M.rn ≤ 6000 ∧ M.on ≤ 6000 => k2 h.2), decide_eq_false (by omega)])
    generalize decide (M.rn ≤ 6000 ∧ M.on ≤ 6000) = D at *
    go_wp2
    go_ret
    exact ⟨by rw [← hd.out]; rfl, HL0.out⟩
  · have hd := Lib.hid (show decide (M.rn ≤ 6000 ∧ M.on ≤ 6000) = false from decide_eq_false (fun h => k1 h.1))
    generalize decide (M.rn ≤ 6000 ∧ M.on ≤ 6000) = D at *
    go_wp2
    go_ret
    exact ⟨by rw [hd.out]; rfl, HL0.out⟩

def m08 : Ms := ⟨5, 9, 3, 258, 1, 7, 2, 0, 0, Wnt.zero, none, 0, 0, [], none, 0, 0, [], 0, 0, 0⟩
theorem know8_enc : mEnc m08.val = some [16, 5, 174, 131, 9, 0, 0, 48, 0, 16, 1, 7, 10, 0, 0, 3, 0, 0, 1, 2, 10, 0, 0, 1, 0, 12, 3, 1, 10, 0, 0, 2, 0, 0, 0, 0, 0, 12, 11, 7, 10, 0, 0, 1, 0, 0, 0, 7] := by decide +kernel
theorem know8_may : (mObjs m08.val).isSome = true := by decide +kernel
theorem fine08 (w : World) (B : Nat) : FineM w B m08 := ⟨Row.nil, Nat.zero_le _, Row.nil, Nat.zero_le _, by simp [m08, Wnt.zero], by simp [m08, Wnt.zero], by simp [m08, Wnt.zero], by simp [m08, Wnt.zero]⟩
theorem Dec8Post.short {w w' : World} {b : List UInt8} {e : Ending} (h : Dec8Post w b e w') (hb : b.length < 8) : e = .returned (.tuple #[.agg (Ms.bare 0 0).cells.toArray, .int .i64 4]) ∧ Below w.heap.size w w' := by
  obtain ⟨hl, ⟨_, err, _, h4, he⟩ | ⟨m, hm, _⟩⟩ := h
  · rw [h4 hb] at he; exact ⟨he, hl⟩
  · rw [mDec_chk (fun hc => hc (.inr (.inl hb)))] at hm; cases hm
theorem Enc8Post.yes {w w' : World} {m : PMs} {b : List UInt8} {e : Ending} (h : Enc8Post w m e w') (hm : mEnc m = some b) : ∃ A c, e = .returned (.tuple #[.slice A b.length c, .int .i64 0]) ∧ Acc w' w.heap.size A c b ∧ Below w.heap.size w w' := by
  obtain ⟨hl, ⟨hn, _⟩ | ⟨b', A, c, hy, he, ha⟩⟩ := h
  · rw [hm] at hn; cases hn
  · rw [hm] at hy
    injection hy with hy
    subst hy
    exact ⟨A, c, he, ha, hl⟩
theorem Enc8Post.no {w w' : World} {m : PMs} {e : Ending} (h : Enc8Post w m e w') (hm : mEnc m = none) : e = .returned (.tuple #[.slice none 0 0, .int .i64 2]) ∧ Below w.heap.size w w' := by
  obtain ⟨hl, ⟨_, he⟩ | ⟨b', A, c, hy, _⟩⟩ := h
  · exact ⟨he, hl⟩
  · rw [hm] at hy; cases hy

set_option maxRecDepth 100000 in
set_option maxHeartbeats 3200000 in
theorem alive8_calls (w : World) : Calls Try.prog 7 #[] w (SamePost w true) := by
  have HZ0 := Lib.hid (Blk.new w 37 (Ms.bare 0 0).cells)
  have HL0 := Lib.hid (bel_new (Below.refl _ w) (.cells (Ms.bare 0 0).cells.toArray 37))
  go_enter Try.func7, Try.ntmps7
  go_upto_region 2 with (refine step_store (o := ⟨none, _, _, _, _, _⟩) (vs := m08.cells) rfl rfl rfl rfl HZ0.out rfl rfl (ms_one _) ?_; intro w1 hb1 hg1 hs1)
  have HM1 := Lib.hid hb1
  have HL1 := Lib.hid (bel_upd HL0.out hg1 (Nat.le_refl _) (Nat.le_refl _))
  have HE := Lib.hid (encode8_calls m08 w1 (fine08 _ _))
  clear hb1 hg1 hs1 HZ0 HL0
  go_wp2_with (refine step_load (o := ⟨some 9, _, _, _, _, _⟩) rfl rfl rfl HM1.out Try.underlying37 rfl rfl ?_)
  ((with_reducible refine HE.out.mono ?_))
  intro e w2 hp
  obtain ⟨A, c, rfl, ha, hb2⟩ := hp.yes know8_enc
  have HM2 := Lib.hid (HM1.out.below hb2)
  have HL2 := Lib.hid (bel_more HL1.out (Nat.le_refl _) hb2)
  have HA2 := Lib.hid ha
  have HD := Lib.hid (decode8_calls (some ⟨w2.heap.size, 0, none⟩) 3 3 [1, 2, 3] (w2.alloc (.cells (([1, 2, 3] : List UInt8).map bv).toArray 5)) ((own_alloc w2 [1, 2, 3] _ rfl).bts (by simp)) (Nat.le_refl _) (by unfold maxLen; omega))
  have bn := bel_new (Below.refl w2.heap.size w2) (.cells (([1, 2, 3] : List UInt8).map bv).toArray 5)
  have HM3 := Lib.hid (HM2.out.below bn)
  have HL3 := Lib.hid (bel_more HL2.out (Nat.le_refl _) bn)
  have HA3 := Lib.hid (HA2.out.bel bn)
  clear hp ha hb2 bn HE HM1 HL1 HM2 HL2 HA2
  go_wp2_with fail
  refine HD.out.mono ?_
  intro e w3 hp
  obtain ⟨rfl, hb3⟩ := hp.short (by decide)
  have HM3' := Lib.hid (HM3.out.below hb3)
  have HL3' := Lib.hid (bel_more HL3.out (Nat.le_refl _) hb3)
  have HA3' := Lib.hid (HA3.out.bel hb3)
  have hZ := Blk.new w3 37 (Ms.bare 0 0).cells
  clear hp hb3 HD HM3 HL3 HA3
  go_upto_region 4 with (refine step_store (o := ⟨none, _, _, _, _, _⟩) (vs := (Ms.bare 0 0).cells) rfl rfl rfl rfl hZ rfl rfl (ms_one _) ?_; intro w4 hb4 hg4 hs4)
  have hl4 : Below w3.heap.size w3 w4 := bel_upd (bel_new (Below.refl w3.heap.size w3) _) hg4 (Nat.le_refl _) (Nat.le_refl _)
  have HM4 := Lib.hid (HM3'.out.below hl4)
  have HL4 := Lib.hid (bel_more HL3'.out (Nat.le_refl _) hl4)
  have ha4 := HA3'.out.bel hl4
  obtain ⟨g, rfl, _⟩ := ha4.some (by decide)
  have hb := ha4.bts
  have c0 : w4.cell? ⟨g, 0, none⟩ = some (.int .u8 16) := hb.byte8 0 (by decide)
  have c1 : w4.cell? ⟨g, 1, none⟩ = some (.int .u8 5) := hb.byte8 1 (by decide)
  have c7 : w4.cell? ⟨g, 7, none⟩ = some (.int .u8 48) := hb.byte8 7 (by decide)
  have HY := may8_calls m08 w4 (fine08 _ _)
  rw [know8_may] at HY
  clear hb4 hg4 hs4 hl4 hb ha4 HM3' HL3' HA3' hZ
  go_wp2_with (refine step_load_want (o := ⟨some 48, _, _, _, _, _⟩) rfl rfl rfl HM4.out Try.underlying37 rfl rfl ?_)
  ((with_reducible refine HY.mono ?_))
  rintro e w5 ⟨rfl, hb5⟩
  have HL5 := Lib.hid (bel_more HL4.out (Nat.le_refl _) hb5)
  clear HY hb5 c0 c1 c7
  go_wp2
  go_ret
  exact ⟨rfl, HL5.out⟩
end Go.Proofs.Ythmgpffpiggomaa
