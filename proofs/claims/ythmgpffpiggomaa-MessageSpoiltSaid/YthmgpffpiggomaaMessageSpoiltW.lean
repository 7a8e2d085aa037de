/-
  The statement MessageSpoilt, walked. Condition: the message's lists read as numbers.
-/
import Derived.Test.YthmgpffpiggomaaMsgU
namespace Go.Proofs.Ythmgpffpiggomaa
open Go.RowKit

theorem xor8_other (y x : UInt8) (h : x ≠ 0) : y ^^^ x ≠ y := by
  intro e
  apply h
  have h2 : y ^^^ (y ^^^ x) = y ^^^ y := by rw [e]
  rwa [← UInt8.xor_assoc, UInt8.xor_self, UInt8.zero_xor] at h2
theorem blank8_same : (Ms.bare 0 0).val.same (Ms.bare 0 0).val = true := (PMs.same_iff _ _).2 rfl

set_option maxRecDepth 100000 in
set_option maxHeartbeats 6400000 in
theorem spoilt8_walk (M : Ms) (i : Int) (x : UInt8) (w : World) (hm : FineM w w.heap.size M) (hi : -9223372036854775808 ≤ i ∧ i < 9223372036854775808) : Calls Try.prog 4 #[.agg M.cells.toArray, .int .i64 i, .int .u8 (x.toNat : Int)] w (SamePost w true) := by
  have HB0 := Lib.hid (Blk.new w 30 M.cells)
  have HL0 := Lib.hid (bel_new (Below.refl _ w) (.cells M.cells.toArray 30))
  have HM := Lib.hid hm
  clear hm
  go_enter Try.func4, Try.ntmps4
  go_upto_region 1 with fail
  revert HB0 HL0
  generalize World.alloc w _ = w1
  intro HB0 HL0
  go_wp2_with fail
  ((with_reducible refine (alive8_calls w1).mono ?_))
  rintro e w2 ⟨rfl, hb⟩
  have HB2 := Lib.hid (HB0.out.below hb)
  have HL2 := Lib.hid (bel_more HL0.out (Nat.le_refl _) hb)
  clear hb HB0 HL0
  have HFT := Lib.hid (fits8_calls M w2 HM.out.len HM.out.len2)
  go_wp2_with (refine step_load (o := ⟨some 13, _, _, _, _, _⟩) rfl rfl rfl HB2.out Try.underlying30 rfl rfl ?_)
  ((with_reducible refine HFT.out.mono ?_))
  rintro e w3 ⟨rfl, hb⟩
  have HB3 := Lib.hid (HB2.out.below hb)
  have HL3 := Lib.hid (bel_more HL2.out (Nat.le_refl _) hb)
  clear hb HB2 HL2 HFT
  cases hd : decide (M.rn ≤ 6000 ∧ M.on ≤ 6000) with
  | false =>
    clear hd
    go_wp2
    go_ret
    exact ⟨rfl, HL3.out⟩
  | true =>
    clear hd
    go_wp2_with (refine step_load (o := ⟨some 17, _, _, _, _, _⟩) rfl rfl rfl HB3.out Try.underlying30 rfl rfl ?_)
    ((with_reducible refine (theirs8_calls M w3).mono ?_))
    rintro e w4 ⟨rfl, hb⟩
    have HL4 := Lib.hid (bel_more HL3.out (Nat.le_refl _) hb)
    clear hb HB3 HL3
    have HEN := Lib.hid (encode8_calls M w4 ((HM.out.below HL4.out).more HL4.out.size))
    go_wp2_with fail
    ((with_reducible refine HEN.out.mono ?_))
    intro e w5 hp
    obtain ⟨b, A, c, er, rfl, ha, hb, hcase⟩ := hp.told
    have HL5 := Lib.hid (bel_more HL4.out (Nat.le_refl _) hb)
    have HA5 := Lib.hid (ha.lower HL4.out.size)
    clear hp ha hb HL4 HEN
    rcases hcase with ⟨rfl, hen⟩ | ⟨rfl, rfl, hen⟩
    · have hb8 : 8 ≤ b.length ∧ b.length ≤ 1196 := by
        obtain ⟨os, v, _, _, hbl, hle, _⟩ := mEnc_says hen
        omega
      have HEN := Lib.hid hen
      have hcap := HA5.out.cap
      have hmx : c ≤ maxLen := by
        rcases HA5.out.2 with ⟨hv, h0⟩ | ⟨g, cap, cur, hv, _, _, _, hm, _⟩
        · injection hv with _ _ e; subst e; exact Nat.zero_le _
        · injection hv with _ _ e; subst e; exact hm
      have HMX := Lib.hid hmx
      clear hen hmx
      by_cases hneg : i < 0
      · clear hcap hb8
        go_wp2
        go_ret
        exact ⟨rfl, HL5.out⟩
      · by_cases hge : (b.length : Int) ≤ i
        · clear hcap hb8
          go_wp2
          go_ret
          exact ⟨rfl, HL5.out⟩
        · by_cases hx : x = 0
          · subst hx
            clear hcap hb8
            go_wp2
            go_ret
            exact ⟨rfl, HL5.out⟩
          · have hx' : (((x.toNat : Nat) : Int) == 0) = false := by
              have : x.toNat ≠ 0 := fun e => hx (UInt8.toNat_inj.1 e)
              simp; omega
            obtain ⟨k, rfl⟩ := Int.eq_ofNat_of_zero_le (show 0 ≤ i by omega)
            obtain ⟨g, rfl, hg⟩ := HA5.out.some (by omega)
            have hk : k < b.length := by omega
            have k1 := HA5.out.cell k hk
            have f1 := HA5.out.free k
            have st := HA5.out.set_ k (b[k] ^^^ x)
            have hxor : (((b[k] ^^^ x).toNat : Nat) : Int) = bits .xor .u8 (b[k].toNat : Int) (x.toNat : Int) := by
              rw [u8_xor_nat _ _ b[k].toNat_lt x.toNat_lt, UInt8.toNat_xor]
            have HD := Lib.hid (mDec_spoilt HEN.out k hk _ (xor8_other b[k] x hx))
            rw [hxor] at st
            have HL6 := Lib.hid (bel_upd HL5.out st.2 (Nat.le_refl _) hg)
            have T6 : Bts (w5.setCell ⟨g, k, none⟩ (.int .u8 (bits .xor .u8 (b[k].toNat : Int) (x.toNat : Int)))) (w5.setCell ⟨g, k, none⟩ (.int .u8 (bits .xor .u8 (b[k].toNat : Int) (x.toNat : Int)))).heap.size (some ⟨g, 0, none⟩) b.length (b.set k (b[k] ^^^ x)) := by
              have := st.1.bts
              rw [List.length_set] at this
              exact this
            have HT6 := Lib.hid T6
            clear hxor st T6 hg hx
            unfold bv at k1
            generalize hz : b.set k (b[k] ^^^ x) = z at *
            clear hz
            generalize b[k].toNat = y at *
            generalize x.toNat = x' at *
            obtain ⟨N, hN⟩ : ∃ N, N = b.length := ⟨_, rfl⟩
            rw [← hN] at hk hge hcap hb8 HT6 ⊢
            have hkN : (k : Int) < (N : Int) := by omega
            clear hN HEN HA5
            go_upto_region 9 with fail
            revert HT6 HL6
            generalize World.setCell w5 _ _ = w6
            intro HL6 HT6
            have HDC := Lib.hid (decode8_calls (some ⟨g, 0, none⟩) N c z w6 HT6.out hcap HMX.out)
            go_wp2_with fail
            ((with_reducible refine HDC.out.mono ?_))
            intro e w7 hp
            obtain ⟨m, er, rfl, _, hb, hcase⟩ := hp.told
            obtain ⟨h0, rfl⟩ : er ≠ 0 ∧ m = .bare 0 0 := by
              rcases hcase with ⟨_, hy⟩ | ⟨h0, hm, _⟩
              · rw [HD.out] at hy; cases hy
              · exact ⟨h0, hm⟩
            have h0' : (er != 0) = true := by simpa using h0
            have HL7 := Lib.hid (bel_more HL6.out (Nat.le_refl _) hb)
            have hZ := Blk.new w7 37 (Ms.bare 0 0).cells
            clear hp hb hcase HDC HT6 HL6 HD
            go_upto_region 10 with (refine step_store (o := ⟨none, _, _, _, _, _⟩) (vs := (Ms.bare 0 0).cells) rfl rfl rfl rfl hZ rfl rfl (ms_one _) ?_; intro w8 hb8' hg8 hs8)
            have hl8 : Below w7.heap.size w7 w8 := bel_upd (bel_new (Below.refl w7.heap.size w7) _) hg8 (Nat.le_refl _) (Nat.le_refl _)
            have HB8 := Lib.hid hb8'
            have HL8 := Lib.hid (bel_more HL7.out (Nat.le_refl _) hl8)
            clear hb8' hg8 hs8 hl8 hZ HL7
            go_wp2_with (refine step_load_want (o := ⟨some 60, _, _, _, _, _⟩) rfl rfl rfl HB8.out Try.underlying37 rfl rfl ?_)
            ((with_reducible refine (ours8_calls (.bare 0 0) w8).mono ?_))
            rintro e w9 ⟨rfl, hb⟩
            have HL9 := Lib.hid (bel_more HL8.out (Nat.le_refl _) hb)
            have HSM := Lib.hid (rsame8_calls (.bare 0 0) (.bare 0 0) w9.heap.size w9.heap.size w9 (FineM.bare _ _ _ _) (FineM.bare _ _ _ _) (Nat.le_refl _) (Nat.le_refl _))
            rw [blank8_same] at HSM
            clear hb HB8 HL8
            go_wp2_with fail
            refine HSM.out.mono ?_
            rintro e w10 ⟨rfl, hb⟩
            have HL10 := Lib.hid (bel_more HL9.out (Nat.le_refl _) hb)
            clear hb HSM HL9
            go_wp2
            go_ret
            exact ⟨rfl, HL10.out⟩
    · clear hen
      go_wp2
      go_ret
      exact ⟨rfl, HL5.out⟩

theorem spoilt8_walk_i (M : Ms) (i x : Int) (w : World) (hm : FineM w w.heap.size M) (hi : -9223372036854775808 ≤ i ∧ i < 9223372036854775808) (hx : 0 ≤ x ∧ x < 256) : Calls Try.prog 4 #[.agg M.cells.toArray, .int .i64 i, .int .u8 x] w (SamePost w true) := by
  have := spoilt8_walk M i (UInt8.ofNat x.toNat) w hm hi
  have e : (((UInt8.ofNat x.toNat).toNat : Nat) : Int) = x := by rw [UInt8.toNat_ofNat']; omega
  rwa [e] at this
end Go.Proofs.Ythmgpffpiggomaa
