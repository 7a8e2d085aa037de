/-
  The document's Decode (viaductref15). Condition: at most 2^40 bytes.
-/
import Derived.Test.YtmfmjdkeoiebpaaTedJ
import Derived.Test.YtmfmjdkeoiebpaaTecI
namespace Go.Proofs.Ytmfmjdkeoiebpaa
set_option maxRecDepth 100000
set_option linter.unusedVariables false
open Go.RowKit

theorem guess15_lit (g o c : Nat) (b : List UInt8) (X : Ad) (hX : gsA b = X) (w : World) (h : Bts w w.heap.size (some ⟨g, o, none⟩) 88 b) (hc : 88 ≤ c) (hcm : c ≤ maxLen) : Calls Try.prog 45 #[.slice (some ⟨g, o, none⟩) 88 c] w fun e w' => e = .returned (.agg #[.int .i64 X.k.f, .int .i64 X.k.t, .int .u64 X.k.c, .int .i64 X.k.m, .int .u32 X.k.g, .int .i64 X.q, .bool X.up, .int .u64 ((X.f[0]?.getD 0 : Nat) : Int), .int .u64 ((X.f[1]?.getD 0 : Nat) : Int), .int .u64 ((X.f[2]?.getD 0 : Nat) : Int), .int .u64 ((X.f[3]?.getD 0 : Nat) : Int), .int .u64 ((X.f[4]?.getD 0 : Nat) : Int), .int .u64 ((X.f[5]?.getD 0 : Nat) : Int), .int .u64 ((X.f[6]?.getD 0 : Nat) : Int), .int .u64 ((X.f[7]?.getD 0 : Nat) : Int)]) ∧ Below w.heap.size w w' := by
  have := guess15_calls g o c b w h hc hcm
  unfold Gu15 at this
  rw [hX] at this
  exact this
def RDe15 (r : List Ad × Int) (w : World) (e : Ending) (w' : World) : Prop := ∃ A c, e = .returned (.tuple #[.slice A r.1.length c, .int .i64 r.2]) ∧ Acc15 w' w.heap.size A c r.1 ∧ Below w.heap.size w w'
theorem aDec_is {b : List UInt8} {n : Nat} (hb : b.length = 88 * n) (hn : n ≤ 64) {y : List UInt8} {e : Int} (he : aEnc (gsN n b) = (y, e)) : aDec b = if e = 0 ∧ y = b then (gsN n b, 0) else ([], 5) := by
  have hq : b.length / 88 = n := by omega
  unfold aDec
  rw [hq, he]
  by_cases h : e = 0 ∧ y = b
  · obtain ⟨rfl, rfl⟩ := h
    rw [if_pos ⟨by omega, by omega, rfl⟩, if_pos ⟨rfl, rfl⟩]
  · rw [if_neg h, if_neg]
    rintro ⟨_, _, h3⟩
    simp only [Prod.mk.injEq] at h3
    exact h ⟨h3.2, h3.1⟩
set_option maxHeartbeats 6400000 in
theorem rdecode15_calls (a : Option Addr) (n c : Nat) (b : List UInt8) (w : World) (hr : Bts w w.heap.size a n b) (hn : n ≤ 1099511627776) (hnc : n ≤ c) (hcm : c ≤ maxLen) : Calls Try.prog 27 #[.slice a n c] w (RDe15 (aDec b) w) := by
  have hlen := hr.1
  have HN := Lib.hid hlen
  obtain ⟨r, hre⟩ : ∃ r, aDec b = r := ⟨_, rfl⟩
  rw [hre]
  have HRE := Lib.hid hre
  have HB := Lib.hid hr
  have HCM := Lib.hid hcm
  clear hre hcm hr
  have hno : r = ([], 5) → ∀ W, Below w.heap.size w W → RDe15 r w (.returned (.tuple #[.slice none 0 0, .int .i64 5])) W := fun e W hW => by
    subst e
    exact ⟨none, 0, rfl, AccR.nil _ _ _, hW⟩
  have HNO := Lib.hid hno
  clear hno
  by_cases h88 : n % 88 = 0
  · by_cases h64 : 5632 < n
    · have hr2 : r = ([], 5) := by rw [← HRE.out]; exact aDec_len (by rw [HN.out]; omega)
      have HR2 := Lib.hid hr2
      have m1 : (n : Int) % 88 = 0 := by omega
      have m2 : (5632 : Int) < (n : Int) := by omega
      clear hr2 h88 h64 hlen
      go_enter Try.func27, Try.ntmps27
      go_wp2_with fail
      refine bodyPost_ret (v := .tuple #[.slice none 0 0, .int .i64 5]) (by simp [results, Try.results27, go_sem]) rfl ?_
      exact HNO.out HR2.out _ (Below.refl _ _)
    · obtain ⟨k, hk⟩ : ∃ k, n = 88 * k := ⟨n / 88, by omega⟩
      have hk64 : k ≤ 64 := by omega
      have m1 : (n : Int) % 88 = 0 := by omega
      have m2 : ¬ (5632 : Int) < (n : Int) := by omega
      have HK := Lib.hid (And.intro (show b.length = 88 * k by rw [hlen, hk]) hk64)
      have HNK := Lib.hid hk
      have HNC := Lib.hid hnc
      clear h88 h64 hlen hk hk64 hnc
      go_enter Try.func27, Try.ntmps27
      go_wp2_with fail
      clear m1 m2
      go_loopw [4, 5] (fun s t W => ∃ (i c1 : Nat) (A : Option Addr), s = .slice A i c1 ∧ t = .int .i64 ((88 * i : Nat) : Int) ∧ i ≤ k ∧ Acc15 W w.heap.size A c1 (gsN i b) ∧ Below w.heap.size w W) (fun s t W => 65 - lenOf s)
      case atStart => exact ⟨0, 0, none, rfl, rfl, Nat.zero_le _, AccR.nil _ _ _, Below.refl _ _⟩
      case round =>
        obtain ⟨i, c1, A, rfl, rfl, hin, ha, hbl⟩ := hrel
        have HA := Lib.hid ha
        have HBL := Lib.hid hbl
        clear ha hbl
        by_cases hlt : i < k
        · have HLT := Lib.hid hlt
          obtain ⟨g, o, rfl, hgb, _⟩ := HB.out.2 (by have := HNK.out; omega)
          obtain ⟨X, hX⟩ : ∃ X, gsA (ch15 b (88 * i)) = X := ⟨_, rfl⟩
          have HX := Lib.hid hX
          have hpart : Bts w w.heap.size (some ⟨g, o + 88 * i, none⟩) 88 (ch15 b (88 * i)) := (HB.out.rest (88 * i) (by have := HNK.out; omega)).front 88 (by have := HNK.out; omega)
          have HG := Lib.hid (fun cc (h1 : 88 ≤ cc) (h2 : cc ≤ maxLen) => guess15_lit g (o + 88 * i) cc (ch15 b (88 * i)) X hX wr ((hpart.below HBL.out).more HBL.out.size) h1 h2)
          obtain ⟨p, hp⟩ : ∃ p, 88 * i = p := ⟨_, rfl⟩
          have HPE := Lib.hid hp
          have hpn : p + 88 ≤ n := by have := HNK.out; omega
          have hpc : p + 88 ≤ c := Nat.le_trans hpn HNC.out
          have HP := Lib.hid (And.intro hp hpc)
          rw [hp] at HG ⊢
          have q1 : (p : Int) < (n : Int) := by omega
          have q2 : (p : Int) + 88 ≤ (c : Int) := by omega
          have q3 : IntKind.i64.wrap ((p : Int) + 88) = ((p + 88 : Nat) : Int) := by rw [IntWalk.i64_in _ (by omega)]; omega
          have q4 : ¬ c = p := by omega
          clear hX hgb hpart hp hin hlt
          go_wp2_with fail
          ((with_reducible refine (HG.out (c - p) (by omega) (by have := HCM.out; unfold maxLen at *; omega)).mono ?_))
          rintro e w7 ⟨rfl, hb⟩
          have A7 := HA.out.bel hb
          have L7 := HBL.out.trans (hb.mono HBL.out.size)
          have hlg : (gsN i b).length = i := gsN_length i b
          obtain ⟨A8, c8, w8, r8, a8, g8⟩ := acc15_push A7 X L7.size (by rw [hlg]; have := HLT.out; have := HK.out; omega)
          rw [hlg] at r8
          have hsn : gsN (i + 1) b = gsN i b ++ [X] := by rw [gsN_snoc, ← HX.out]; rfl
          rw [← hsn] at a8
          have B8 := Lib.hid (show Below w.heap.size w w8 from belr_acc L7 A7 g8)
          have A8' := Lib.hid a8
          have RUN := Lib.hid r8
          have P8 := Lib.hid (show p + 88 = 88 * (i + 1) by have := HPE.out; omega)
          clear hb A7 L7 hlg r8 hsn a8 g8 HG HA HBL
          go_wp2_with (at_builtin; refine step_append rfl rfl rfl rfl RUN.out ?_)
          go_roundw
          case rel => exact ⟨i + 1, c8, A8, by first | rfl | (simp; omega), by rw [← P8.out]; first | rfl | (simp; omega), HLT.out, A8'.out, B8.out⟩
          case measure => have := HLT.out; have := HK.out; simp [lenOf]; omega
        · obtain rfl : i = k := by omega
          obtain ⟨y, e0, hye⟩ : ∃ y e0, aEnc (gsN i b) = (y, e0) := ⟨_, _, rfl⟩
          have his := aDec_is HK.out.1 HK.out.2 hye
          rw [HRE.out] at his
          have HIS := Lib.hid his
          have hen := rencode15_calls A i c1 (gsN i b) (gsN_ok b i) wr (by have := AccR.row HA.out; rw [gsN_length] at this; exact this) (by have := HK.out; omega)
          rw [hye] at hen
          unfold En15 at hen
          have HEN := Lib.hid hen
          have q1 : ¬ ((88 * i : Nat) : Int) < (n : Int) := by have := HNK.out; omega
          clear hye his hen hin hlt
          go_wp2_with fail
          ((with_reducible refine HEN.out.mono ?_))
          rintro e w7 ⟨A2, c2, rfl, hacc, hb⟩
          have A7 := Lib.hid (HA.out.bel hb)
          have L7 := Lib.hid (HBL.out.trans (hb.mono HBL.out.size))
          have t1 := hacc.bts.text (P := Try.prog) (c := c2) 52 5 9 Try.underlying52 Try.underlying5 Try.underlying9
          have t2 := (HB.out.below L7.out).text (P := Try.prog) (c := c) 52 5 9 Try.underlying52 Try.underlying5 Try.underlying9
          have T1 := Lib.hid t1
          have T2 := Lib.hid t2
          obtain ⟨N, hN⟩ : ∃ N, y.length = N := ⟨_, rfl⟩
          rw [hN] at t1
          rw [hN]
          clear hacc hb hN T1 T2 HEN HA HBL
          by_cases he0 : e0 = 0
          · subst he0
            by_cases hyb : y = b
            · subst hyb
              have hr2 := HIS.out
              rw [if_pos ⟨rfl, rfl⟩] at hr2
              have HR2 := Lib.hid hr2
              clear hr2
              go_wp2_with fail
              refine bodyPost_ret (v := .tuple #[.slice A i c1, .int .i64 0]) (by simp [results, Try.results27, go_sem]) rfl ?_
              rw [HR2.out]
              exact ⟨A, c1, by rw [gsN_length], A7.out, L7.out⟩
            · have hr2 := HIS.out
              rw [if_neg (fun h => hyb h.2)] at hr2
              have HR2 := Lib.hid hr2
              have hne : (y == b) = false := beq_eq_false_iff_ne.2 hyb
              clear hr2 hyb
              go_wp2_with fail
              refine bodyPost_ret (v := .tuple #[.slice none 0 0, .int .i64 5]) (by simp [results, Try.results27, go_sem]) rfl ?_
              exact HNO.out HR2.out _ L7.out
          · have hr2 := HIS.out
            rw [if_neg (fun h => he0 h.1)] at hr2
            have HR2 := Lib.hid hr2
            have hnb : (e0 != 0) = true := by simpa using he0
            clear hr2 he0 t1 t2
            go_wp2_with fail
            refine bodyPost_ret (v := .tuple #[.slice none 0 0, .int .i64 5]) (by simp [results, Try.results27, go_sem]) rfl ?_
            exact HNO.out HR2.out _ L7.out
  · have hr2 : r = ([], 5) := by rw [← HRE.out]; exact aDec_len (by rw [HN.out]; omega)
    have HR2 := Lib.hid hr2
    have m1 : ¬ (n : Int) % 88 = 0 := by omega
    clear hr2 h88 hlen
    go_enter Try.func27, Try.ntmps27
    go_wp2_with fail
    refine bodyPost_ret (v := .tuple #[.slice none 0 0, .int .i64 5]) (by simp [results, Try.results27, go_sem]) rfl ?_
    exact HNO.out HR2.out _ (Below.refl _ _)
end Go.Proofs.Ytmfmjdkeoiebpaa
