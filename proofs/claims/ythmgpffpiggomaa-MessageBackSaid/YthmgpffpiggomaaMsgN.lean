/-
  Contracts of message.May and message.Encode. Condition: the message's lists read as numbers.
-/
import Derived.Test.YthmgpffpiggomaaMsgI
import Derived.Test.YthmgpffpiggomaaMsgM
namespace Go.Proofs.Ythmgpffpiggomaa
open Go.RowKit

theorem mObjs_ty {m : PMs} {os : List (Int × Int × List UInt8)} (h : mObjs m = some os) : 1 ≤ m.ty ∧ m.ty ≤ 7 ∧ 0 ≤ m.tl ∧ m.tl ≤ 255 := by
  obtain ⟨h1, h2, h3, _⟩ := mObjs_some.1 h
  have hne : prts m.ty ≠ [] := by
    intro e
    rw [e] at h2
    have := congrArg List.length h2
    simp at this; omega
  exact ⟨(prts_ty hne).1, (prts_ty hne).2, h1.1, h1.2⟩
theorem head8_i (M : Ms) (x : Int) (w : World) (h : 1 ≤ M.ty ∧ M.ty ≤ 7 ∧ 0 ≤ M.tl ∧ M.tl ≤ 255) (h4 : 0 ≤ x) (h5 : x < 65536) :
    Calls Try.prog 18 #[.agg M.cells.toArray, .int .i64 x] w (Head8Post w (hd8 M.ty M.tl x.toNat)) := by
  have := head8_calls M x.toNat w h.1 h.2.1 h.2.2.1 h.2.2.2 (by omega)
  rwa [Int.toNat_of_nonneg h4] at this
theorem mEnc_no {m : PMs} (h : mObjs m = none) : mEnc m = none := by unfold mEnc; rw [h]
theorem mEnc_yes {m : PMs} {os : List (Int × Int × List UInt8)} (h : mObjs m = some os) : mEnc m = some (sealL (hd8 m.ty m.tl (8 + (oEnc os).length) ++ oEnc os) 2) := by unfold mEnc; rw [h]

/-- What Encode answers. -/
def Enc8Post (w : World) (m : PMs) (e : Ending) (w' : World) : Prop :=
  Below w.heap.size w w' ∧ ((mEnc m = none ∧ e = .returned (.tuple #[.slice none 0 0, .int .i64 2])) ∨
    (∃ b A c, mEnc m = some b ∧ e = .returned (.tuple #[.slice A b.length c, .int .i64 0]) ∧ Acc w' w.heap.size A c b))

set_option maxRecDepth 100000 in
theorem may8_calls (M : Ms) (w : World) (h : FineM w w.heap.size M) : Calls Try.prog 14 #[.agg M.cells.toArray] w (SamePost w (mObjs M.val).isSome) := by
  have h0 := Blk.new w 37 M.cells
  have HB0 := Lib.hid h0
  have HL0 := Lib.hid (bel_new (Below.refl _ w) (.cells M.cells.toArray 37))
  have HW := Lib.hid h
  clear h h0
  go_enter Try.func14, Try.ntmps14
  go_upto_region 1 with fail
  revert HB0 HL0
  generalize World.alloc w _ = w1
  intro HB0 HL0
  have hc := objects_calls M w1 ((HW.out.below HL0.out).more HL0.out.size)
  go_wp2_with (refine step_load (o := ⟨some 6, _, _, _, _, _⟩) rfl rfl rfl HB0.out Try.underlying37 rfl rfl ?_)
  ((with_reducible refine hc.mono ?_))
  rintro e w2 ⟨hb2, hcase⟩
  have HL2 := Lib.hid (bel_more HL0.out (Nat.le_refl _) hb2)
  clear hc hb2
  rcases hcase with ⟨hno, rfl⟩ | ⟨A, c, qs, hos, rfl, _⟩
  · have HN := Lib.hid hno
    clear hno
    go_wp2
    go_ret
    rw [HN.out]
    exact ⟨rfl, HL2.out⟩
  · have HN := Lib.hid hos
    clear hos
    go_wp2
    go_ret
    rw [HN.out]
    exact ⟨rfl, HL2.out⟩

set_option maxRecDepth 100000 in
set_option maxHeartbeats 1600000 in
theorem encode8_calls (M : Ms) (w : World) (h : FineM w w.heap.size M) : Calls Try.prog 9 #[.agg M.cells.toArray] w (Enc8Post w M.val) := by
  have h0 := Blk.new w 37 M.cells
  have HB0 := Lib.hid h0
  have HL0 := Lib.hid (bel_new (Below.refl _ w) (.cells M.cells.toArray 37))
  have HW := Lib.hid h
  clear h h0
  go_enter Try.func9, Try.ntmps9
  go_upto_region 1 with fail
  revert HB0 HL0
  generalize World.alloc w _ = w1
  intro HB0 HL0
  have hc := objects_calls M w1 ((HW.out.below HL0.out).more HL0.out.size)
  go_wp2_with (refine step_load (o := ⟨some 9, _, _, _, _, _⟩) rfl rfl rfl HB0.out Try.underlying37 rfl rfl ?_)
  ((with_reducible refine hc.mono ?_))
  rintro e w2 ⟨hb2, hcase⟩
  have HL2 := Lib.hid (bel_more HL0.out (Nat.le_refl _) hb2)
  have HB2 := Lib.hid (HB0.out.below hb2)
  clear hc hb2 HB0 HL0 HW
  rcases hcase with ⟨hno, rfl⟩ | ⟨A, c, qs, hos, rfl, hobj⟩
  · have HN := Lib.hid (mEnc_no hno)
    clear hno
    go_wp2
    go_ret2
    exact ⟨HL2.out, .inl ⟨HN.out, rfl⟩⟩
  · have k0 := (mObjs_ok hos).1
    have kl := (mObjs_ok hos).2.2.1
    have HTY := Lib.hid (show 1 ≤ M.ty ∧ M.ty ≤ 7 ∧ 0 ≤ M.tl ∧ M.tl ≤ 255 from mObjs_ty hos)
    have HYES := Lib.hid (mEnc_yes hos)
    have hq32 : qs.length ≤ 32 := by
      have := (oErr_zero k0).1
      rw [vals_length] at this
      exact this
    have hc := obencode_calls A qs.length c qs w2 hobj (by unfold maxLen; omega)
    clear hos hobj hq32
    go_wp2_with fail
    ((with_reducible refine hc.mono ?_))
    rintro e w3 ⟨A3, c3, rfl, ha3, hb3⟩
    have HA3 := Lib.hid ha3
    have HB3 := Lib.hid (HB2.out.below hb3)
    have HL3 := Lib.hid (bel_more HL2.out (Nat.le_refl _) hb3)
    rw [k0]
    clear hc ha3 hb3 HB2 k0
    generalize oEnc (vals qs) = R at *
    go_wp2_with (refine step_load (o := ⟨some 23, _, _, _, _, _⟩) rfl rfl rfl HB3.out Try.underlying37 rfl rfl ?_)
    ((with_reducible refine (head8_i M _ w3 HTY.out (by omega) (by omega)).mono ?_))
    rintro e w4 ⟨g, rfl, hg, ho4, hb4⟩
    have e8 : (8 + (R.length : Int)).toNat = 8 + R.length := by omega
    rw [e8] at ho4
    obtain ⟨L, hL⟩ : ∃ L, L = hd8 M.ty M.tl (8 + R.length) := ⟨_, rfl⟩
    have hLl : L.length = 8 := by rw [hL]; exact hd8_length _ _ _
    rw [← hL] at ho4
    have ha4 := ho4.acc (base := w.heap.size) (Nat.le_trans HL3.out.size hg) (by omega)
    have hl4 := bel_more HL3.out (Nat.le_refl _) hb4
    have hR4 := (HA3.out.bts.below hb4).more hb4.size
    obtain ⟨A5, c5, w5, r5, a5, g5, _⟩ := acc_append ha4 (cc := c3) hR4 hl4.size (by omega) 31
    rw [hLl] at r5
    have hl5 := bel_acc hl4 ha4 g5
    have hcap := a5.cap
    have hmx : c5 ≤ maxLen := by
      rcases a5.2 with ⟨hv, h0⟩ | ⟨g, cap, cur, hv, _, _, _, hm, _⟩
      · injection hv with _ _ e; subst e; exact Nat.zero_le _
      · injection hv with _ _ e; subst e; exact hm
    have hb5 := a5.bts
    have hlen5 : (L ++ R).length = 8 + R.length := by rw [List.length_append, hLl]
    rw [hlen5] at hb5 hcap
    have R5 := Lib.hid r5
    have HS := Lib.hid (seal_ok A5 (8 + R.length) c5 (L ++ R) 2 w5 hb5 (by omega) hcap hmx (by omega) (by omega) (by omega))
    have HL5 := Lib.hid hl5
    have HLN := Lib.hid (show (sealL (L ++ R) 2).length = 8 + R.length by rw [sealL_length _ _ (by omega), hlen5])
    have HLH := Lib.hid hL
    clear e8 hL hLl ho4 hb4 ha4 hl4 hR4 r5 a5 g5 hl5 hcap hmx hb5 hlen5 hg HA3 HB3
    go_wp2_with (at_builtin; refine step_append (o := ⟨some 29, _, _, _, _, _⟩) rfl rfl rfl rfl R5.out ?_)
    ((with_reducible refine HS.out.mono ?_))
    rintro e w6 ⟨A6, c6, rfl, ha6, hb6⟩
    have HA6 := Lib.hid (ha6.lower HL5.out.size)
    have HL6 := Lib.hid (bel_more HL5.out (Nat.le_refl _) hb6)
    clear ha6 hb6 HS R5
    go_wp2
    go_ret2
    refine ⟨HL6.out, .inr ⟨sealL (L ++ R) 2, A6, c6, ?_, by rw [HLN.out]; rfl, HA6.out⟩⟩
    rw [HLH.out]; exact HYES.out
end Go.Proofs.Ythmgpffpiggomaa
