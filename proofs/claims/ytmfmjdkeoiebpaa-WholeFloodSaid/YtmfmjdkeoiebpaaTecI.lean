/-
  Contract of package tedb: Decode. Condition: at most 2^40 bytes.
-/
import Derived.Test.YtmfmjdkeoiebpaaTecH
namespace Go.Proofs.Ytmfmjdkeoiebpaa
set_option maxRecDepth 100000
set_option linter.unusedVariables false
open Go.RowKit

theorem ch15_length {b : List UInt8} {n i : Nat} (hb : b.length = 88 * n) (hi : i < n) : (ch15 b (88 * i)).length = 88 := chunk_length hb hi
theorem aDec_ok {b : List UInt8} {n : Nat} (hb : b.length = 88 * n) (hn : n ≤ 64) (h : ∀ i, i < n → (fineB (ch15 b (88 * i)) && vldA (gsA (ch15 b (88 * i)))) = true) : aDec b = (gsN n b, 0) := by
  have hq : b.length / 88 = n := by omega
  unfold aDec
  rw [hq, if_pos]
  refine ⟨by omega, by omega, ?_⟩
  have hall : (gsN n b).all vldA = true := by
    rw [List.all_eq_true]
    intro a ha
    obtain ⟨i, hi, rfl⟩ := List.mem_iff_getElem.1 ha
    rw [gsN_length] at hi
    have h1 := gsN_get n b i hi
    rw [List.getElem?_eq_getElem (by rw [gsN_length]; exact hi), Option.some.injEq] at h1
    rw [h1]
    have := h i hi
    rw [Bool.and_eq_true] at this
    exact this.2
  have hown : adsB (gsN n b) = b := (adsB_gsN hb).2 fun i hi => by
    have := h i hi
    rw [Bool.and_eq_true] at this
    exact this.1
  unfold aEnc
  rw [gsN_length, if_neg (by omega), if_pos hall, hown]
theorem aDec_bad {b : List UInt8} {n i : Nat} (hb : b.length = 88 * n) (hi : i < n) (h : (fineB (ch15 b (88 * i)) && vldA (gsA (ch15 b (88 * i)))) = false) : aDec b = ([], 5) := by
  have hq : b.length / 88 = n := by omega
  unfold aDec
  rw [hq, if_neg]
  rintro ⟨_, _, he⟩
  unfold aEnc at he
  split at he
  · simp at he
  · split at he
    · rename_i _ hall
      simp only [Prod.mk.injEq, and_true] at he
      have h1 := (adsB_gsN hb).1 he i hi
      have h2 : vldA (gsA (ch15 b (88 * i))) = true := by
        rw [List.all_eq_true] at hall
        exact hall _ (List.mem_of_getElem? (gsN_get n b i hi))
      have h3 : fineB (ch15 b (88 * i)) = true := h1
      rw [h3, h2] at h
      cases h
    · simp at he
theorem aDec_len {b : List UInt8} (h : b.length % 88 ≠ 0 ∨ 64 < b.length / 88) : aDec b = ([], 5) := by
  unfold aDec
  rw [if_neg]
  rintro ⟨h1, h2, _⟩
  omega
theorem gsN_take {b : List UInt8} {n i : Nat} (hi : i ≤ n) : (gsN n b).take i = gsN i b := by
  apply List.ext_getElem?
  intro j
  rw [List.getElem?_take]
  split
  · rename_i hj
    rw [gsN_get _ _ _ (by omega), gsN_get _ _ _ hj]
  · rw [List.getElem?_eq_none (by rw [gsN_length]; omega)]
def De15 (r : List Ad × Int) (w : World) (e : Ending) (w' : World) : Prop := ∃ A c, e = .returned (.tuple #[.slice A r.1.length c, .int .i64 r.2]) ∧ AccT15 w' w.heap.size A c r.1 ∧ Below w.heap.size w w'
theorem accr_rdr15 {w : World} {base c r g i : Nat} {A : Option Addr} {l : List Ad} {b : List UInt8} {err : Int} (h : AccT15 w base A c l) (hr : Rdr w r g b i err) : blk A ≠ some r ∧ blk A ≠ some g := by
  have h1 : Blk w r 103 [.bool true, .slice (some ⟨g, 0, none⟩) b.length b.length, .int .i64 (i : Int), .int .i64 err] := hr.1
  have h2 : Blk w g 5 (b.map bv) := hr.2.1
  exact ⟨fun e => accr_blk15 h h1 (by decide) e, fun e => accr_blk15 h h2 (by decide) e⟩
set_option maxHeartbeats 6400000 in
theorem decode15c_calls (a : Option Addr) (n c : Nat) (b : List UInt8) (w : World) (hr : Bts w w.heap.size a n b) (hn : n ≤ 1099511627776) : Calls Try.prog 26 #[.slice a n c] w (De15 (aDec b) w) := by
  have hlen := hr.1
  have HN := Lib.hid hlen
  obtain ⟨r, hre⟩ : ∃ r, aDec b = r := ⟨_, rfl⟩
  rw [hre]
  have HRE := Lib.hid hre
  have hnew := new_calls a n c b w hr (by omega)
  have HNEW := Lib.hid hnew
  clear hre hnew hr
  have hno : r = ([], 5) → De15 r w (.returned (.tuple #[.slice none 0 0, .int .i64 5])) w := fun e => by
    subst e
    exact ⟨none, 0, rfl, AccR.nil _ _ _, Below.refl _ _⟩
  have HNO := Lib.hid hno
  clear hno
  by_cases h88 : n % 88 = 0
  · by_cases h64 : 64 < n / 88
    · have hr2 : r = ([], 5) := by rw [← HRE.out]; exact aDec_len (by rw [HN.out]; omega)
      have HR2 := Lib.hid hr2
      have m1 : (n : Int) % 88 = 0 := by omega
      have m2 : (64 : Int) < (n : Int) / 88 := by omega
      clear hr2 h88 h64 hlen
      go_enter Try.func26, Try.ntmps26
      go_wp2_with fail
      refine bodyPost_ret (v := .tuple #[.slice none 0 0, .int .i64 5]) (by simp [results, Try.results26, go_sem]) rfl ?_
      exact HNO.out HR2.out
    · obtain ⟨k, hk⟩ : ∃ k, n = 88 * k := ⟨n / 88, by omega⟩
      have hk64 : k ≤ 64 := by omega
      have m1 : (n : Int) % 88 = 0 := by omega
      have m2 : ¬ (64 : Int) < (n : Int) / 88 := by omega
      have HK := Lib.hid (And.intro (show b.length = 88 * k by rw [hlen, hk]) hk64)
      clear h88 h64 hlen hk hk64
      go_enter Try.func26, Try.ntmps26
      go_wp2_with fail
      ((with_reducible refine HNEW.out.mono ?_))
      rintro e w1 ⟨r1, g1, rfl, hr1, hg1, hrd, hb1⟩
      have R1 := Lib.hid (show Rdr w1 r1 g1 b (88 * 0) 0 from hrd)
      have L1 := Lib.hid hb1
      have HRG := Lib.hid (And.intro hr1 hg1)
      clear hrd hb1 HNEW hr1 hg1 m1 m2
      go_wp2_with fail
      go_loopw [5] (fun s W => ∃ (i c1 : Nat) (A : Option Addr), s = .slice A i c1 ∧ i ≤ k ∧ AccT15 W w.heap.size A c1 (gsN i b) ∧ (∀ j, j < i → (fineB (ch15 b (88 * j)) && vldA (gsA (ch15 b (88 * j)))) = true) ∧ Rdr W r1 g1 b (88 * i) 0 ∧ Below w.heap.size w W) (fun s W => 65 - lenOf s)
      case atStart => exact ⟨0, 0, none, rfl, Nat.zero_le _, AccR.nil _ _ _, fun j hj => absurd hj (by omega), R1.out, L1.out⟩
      case round =>
        clear R1 L1
        obtain ⟨i, c1, A, rfl, hin, ha, hv, hrd, hbl⟩ := hrel
        have HA := Lib.hid ha
        have HV := Lib.hid hv
        have HRD := Lib.hid hrd
        have HBL := Lib.hid hbl
        have HII := Lib.hid hin
        have hlf := left_calls hrd
        have hb88 := HK.out.1
        by_cases hlt : i < k
        · have hleft : (0 : Int) < (b.length : Int) - ((88 * i : Nat) : Int) := by omega
          obtain ⟨L, hL⟩ : ∃ L, (b.length : Int) - ((88 * i : Nat) : Int) = L := ⟨_, rfl⟩
          rw [hL] at hlf hleft
          have HLF := Lib.hid hlf
          have HLT := Lib.hid hlt
          clear ha hv hrd hbl hlf hL hin hlt
          have hb88' := Lib.hid hb88
          clear hb88
          go_wp2_with fail
          ((with_reducible refine HLF.out.mono ?_))
          rintro e w2 ⟨rfl, m, rfl⟩
          clear HLF
          have R2 := Lib.hid (HRD.out.drewN m)
          have A2 := Lib.hid (AccR.drewN HA.out m)
          have L2 := Lib.hid (bel_drewN HBL.out m)
          clear HRD HA HBL
          generalize wr.drewN m = w2 at *
          have hread := read15_calls r1 g1 b (88 * i) w2 R2.out (by have := hb88'.out; have := HLT.out; omega)
          unfold Rd15 at hread
          obtain ⟨X, hX⟩ : ∃ X, gsA (ch15 b (88 * i)) = X := ⟨_, rfl⟩
          obtain ⟨D, hD⟩ : ∃ D, (fineB (ch15 b (88 * i)) && vldA X) = D := ⟨_, rfl⟩
          rw [hX, hD] at hread
          have HX := Lib.hid hX
          have HD := Lib.hid hD
          have HREAD := Lib.hid hread
          clear hread hX hD
          go_wp2_with fail
          ((with_reducible refine HREAD.out.mono ?_))
          rintro e w3 ⟨rfl, hrd, hg⟩
          have R3 := Lib.hid hrd
          have A3 := Lib.hid (A2.out.kept hg (fun x hx e => by
            injection e with e
            subst e
            exact (accr_rdr15 A2.out R2.out).1 hx))
          have L3 := Lib.hid (bel_upd L2.out hg (Nat.le_refl _) HRG.out.1)
          clear hrd hg R2 A2 L2 HREAD
          have HI := Lib.hid (show (Try.prog.info? 40).map (·.size) = some (adc X).length from infoAdTS15)
          have hbz := bel_new (Below.refl w3.heap.size w3) (.cells #[.int .i64 0, .int .i64 0, .int .u64 0, .int .i64 0, .int .u32 0, .int .i64 0, .bool false, .int .u64 0, .int .u64 0, .int .u64 0, .int .u64 0, .int .u64 0, .int .u64 0, .int .u64 0, .int .u64 0] 40)
          have BZ := Lib.hid (show Blk (w3.alloc (.cells #[.int .i64 0, .int .i64 0, .int .u64 0, .int .i64 0, .int .u32 0, .int .i64 0, .bool false, .int .u64 0, .int .u64 0, .int .u64 0, .int .u64 0, .int .u64 0, .int .u64 0, .int .u64 0, .int .u64 0] 40)) w3.heap.size 40 zr15 from Blk.new w3 _ zr15)
          have AZ := Lib.hid (AccR.bel A3.out hbz)
          have RZ := Lib.hid (R3.out.bel hbz)
          have LZ := Lib.hid (L3.out.trans (hbz.mono L3.out.size))
          have QZ := Lib.hid L3.out.size
          have QA := Lib.hid (show ∀ g, blk A = some g → g < w3.heap.size from fun g hg => (AccR.ge A3.out hg).2)
          have QR := Lib.hid (show r1 < w3.heap.size ∧ g1 < w3.heap.size from ⟨R3.out.lt, R3.out.2.1.lt⟩)
          clear hbz A3 R3 L3
          go_upto_region 7 with ((with_reducible refine step_store (o := ⟨none, _, _, _, _, _⟩) (vs := adc X) (ty := 40) (x := .tmp 6) (y := .tmp 26) ?_ ?_ ?_ ?_ BZ.out HI.out rfl (adc_one _) ?_); (rfl); (rfl); (rfl); (rfl); intro w5 hb5 hg5 hs5)
          have B5 := Lib.hid hb5
          have L5 := Lib.hid (bel_upd LZ.out hg5 (Nat.le_refl _) QZ.out)
          have A5 := Lib.hid (AZ.out.kept hg5 (fun x hx e => by injection e with e; have := QA.out x hx; omega))
          have R5 := Lib.hid (RZ.out.same (hg5.block _ RZ.out.lt (fun e => by injection e with e; have := QR.out; omega)) (hg5.block _ RZ.out.2.1.lt (fun e => by injection e with e; have := QR.out; omega)))
          clear hb5 hg5 hs5 BZ LZ AZ RZ
          generalize w3.heap.size = q5 at *
          cases D with
          | false =>
            have hr2 : r = ([], 5) := by
              rw [← HRE.out]
              exact aDec_bad HK.out.1 HLT.out (by rw [HX.out]; exact HD.out)
            subst hr2
            go_wp2_with fail
            refine bodyPost_ret (v := .tuple #[.slice none 0 0, .int .i64 5]) (by simp [results, Try.results26, go_sem]) rfl ?_
            exact ⟨none, 0, rfl, AccR.nil _ _ _, L5.out⟩
          | true =>
            have hlg : (gsN i b).length = i := gsN_length i b
            obtain ⟨A8, c8, w8, r8, a8, g8⟩ := acct15_push A5.out X L5.out.size (by rw [hlg]; have := HII.out; have := HK.out; omega)
            rw [hlg] at r8
            have hsn : gsN (i + 1) b = gsN i b ++ [X] := by rw [gsN_snoc, ← HX.out]; rfl
            rw [← hsn] at a8
            have B8 := Lib.hid (show Below w.heap.size w w8 from belr_acc L5.out A5.out g8)
            have R8 := Lib.hid (show Rdr w8 r1 g1 b (88 * (i + 1)) 0 from by
              have ne := accr_rdr15 A5.out R5.out
              have h9 := R5.out.same (g8.block _ R5.out.lt (fun e => ne.1 e.symm)) (g8.block _ R5.out.2.1.lt (fun e => ne.2 e.symm))
              rw [show 88 * (i + 1) = 88 * i + 88 by omega]
              exact h9)
            have A8' := Lib.hid a8
            have RUN := Lib.hid r8
            have V8 := Lib.hid (show ∀ j, j < i + 1 → (fineB (ch15 b (88 * j)) && vldA (gsA (ch15 b (88 * j)))) = true from fun j hj => by
              rcases Nat.lt_or_ge j i with h | h
              · exact HV.out j h
              · obtain rfl : j = i := by omega
                rw [HX.out]; exact HD.out)
            clear r8 a8 g8 hlg hsn A5 L5 R5
            have y0 : w5.cell? ⟨q5, 0, none⟩ = some (.int .i64 X.k.f) := B5.out.cell 0
            have y1 : w5.cell? ⟨q5, 1, none⟩ = some (.int .i64 X.k.t) := B5.out.cell 1
            have y2 : w5.cell? ⟨q5, 2, none⟩ = some (.int .u64 X.k.c) := B5.out.cell 2
            have y3 : w5.cell? ⟨q5, 3, none⟩ = some (.int .i64 X.k.m) := B5.out.cell 3
            have y4 : w5.cell? ⟨q5, 4, none⟩ = some (.int .u32 X.k.g) := B5.out.cell 4
            have y5 : w5.cell? ⟨q5, 5, none⟩ = some (.int .i64 X.q) := B5.out.cell 5
            have y6 : w5.cell? ⟨q5, 6, none⟩ = some (.bool X.up) := B5.out.cell 6
            have y7 : w5.cell? ⟨q5, 7, none⟩ = some (.int .u64 ((X.f[0]?.getD 0 : Nat) : Int)) := B5.out.cell 7
            have y8 : w5.cell? ⟨q5, 8, none⟩ = some (.int .u64 ((X.f[1]?.getD 0 : Nat) : Int)) := B5.out.cell 8
            have y9 : w5.cell? ⟨q5, 9, none⟩ = some (.int .u64 ((X.f[2]?.getD 0 : Nat) : Int)) := B5.out.cell 9
            have y10 : w5.cell? ⟨q5, 10, none⟩ = some (.int .u64 ((X.f[3]?.getD 0 : Nat) : Int)) := B5.out.cell 10
            have y11 : w5.cell? ⟨q5, 11, none⟩ = some (.int .u64 ((X.f[4]?.getD 0 : Nat) : Int)) := B5.out.cell 11
            have y12 : w5.cell? ⟨q5, 12, none⟩ = some (.int .u64 ((X.f[5]?.getD 0 : Nat) : Int)) := B5.out.cell 12
            have y13 : w5.cell? ⟨q5, 13, none⟩ = some (.int .u64 ((X.f[6]?.getD 0 : Nat) : Int)) := B5.out.cell 13
            have y14 : w5.cell? ⟨q5, 14, none⟩ = some (.int .u64 ((X.f[7]?.getD 0 : Nat) : Int)) := B5.out.cell 14
            go_wp2_with (at_builtin; refine step_append rfl rfl rfl rfl RUN.out ?_)
            go_roundw
            case rel => exact ⟨i + 1, c8, A8, by first | rfl | (simp; omega), HLT.out, A8'.out, V8.out, R8.out, B8.out⟩
            case measure => have := HLT.out; have := HK.out; simp [lenOf]; omega
        · obtain rfl : i = k := by omega
          have hleft : (b.length : Int) - ((88 * i : Nat) : Int) = 0 := by omega
          rw [hleft] at hlf
          have HLF := Lib.hid hlf
          have hr2 : r = (gsN i b, 0) := by rw [← HRE.out]; exact aDec_ok HK.out.1 HK.out.2 HV.out
          have HR2 := Lib.hid hr2
          clear ha hv hrd hbl hlf hin hlt hb88 hleft hr2
          go_wp2_with fail
          ((with_reducible refine HLF.out.mono ?_))
          rintro e w2 ⟨rfl, m, rfl⟩
          clear HLF
          go_wp2_with fail
          refine bodyPost_ret (v := .tuple #[.slice A i c1, .int .i64 0]) (by simp [results, Try.results26, go_sem]) rfl ?_
          rw [HR2.out]
          exact ⟨A, c1, by rw [gsN_length], AccR.drewN HA.out m, bel_drewN HBL.out m⟩
  · have hr2 : r = ([], 5) := by rw [← HRE.out]; exact aDec_len (by rw [HN.out]; omega)
    have HR2 := Lib.hid hr2
    have m1 : ¬ (n : Int) % 88 = 0 := by omega
    clear hr2 h88 hlen
    go_enter Try.func26, Try.ntmps26
    go_wp2_with fail
    refine bodyPost_ret (v := .tuple #[.slice none 0 0, .int .i64 5]) (by simp [results, Try.results26, go_sem]) rfl ?_
    exact HNO.out HR2.out
end Go.Proofs.Ytmfmjdkeoiebpaa
