/-
  The law TedbBytes, walked: for any adverts and any bytes the answer is true, and nothing that was there has turned. Condition: each advert's numbers as large as their types allow.
-/
import Derived.Test.YtmfmjdkeoiebpaaTewC
import Derived.Test.YtmfmjdkeoiebpaaTedG
namespace Go.Proofs.Ytmfmjdkeoiebpaa
set_option maxRecDepth 100000
set_option linter.unusedVariables false
open Go.RowKit

set_option maxHeartbeats 6400000 in
theorem bytes15_walk (a0 : Option Addr) (n0 c0 : Nat) (a1 : Option Addr) (n1 c1 : Nat) (w : World) (h0 : n0 ≤ maxLen) (ho : ∃ l, Row adc w w.heap.size a0 n0 l ∧ ∀ x ∈ l, AdOk x ∧ I15 x.q) (h1 : n1 ≤ c1 ∧ c1 ≤ maxLen ∧ ∃ b, Bts w w.heap.size a1 n1 b) :
    Calls Try.prog 4 #[.slice a0 n0 c0, .slice a1 n1 c1] w fun e w' => e = .returned (.bool true) ∧ Below w.heap.size w w' := by
  obtain ⟨l, hr, hok⟩ := ho
  obtain ⟨hnc, hcm, b, hb⟩ := h1
  have HR := Lib.hid hr
  have HOK := Lib.hid hok
  have HB := Lib.hid hb
  have HC1 := Lib.hid (And.intro hnc hcm)
  unfold maxLen at h0 hcm
  have g1 : n1 ≤ 9223372036854775807 := by omega
  clear hr hok hb hnc hcm
  go_enter Try.func4, Try.ntmps4
  go_wp2_with fail
  ((with_reducible refine (alive15_calls w).mono ?_))
  rintro e w1 ⟨rfl, hb1⟩
  have L1 := Lib.hid hb1
  clear hb1
  by_cases q0 : 100 < n0
  · have q0' : (100 : Int) < (n0 : Int) := by omega
    go_wp2_with fail
    go_ret
    exact ⟨rfl, L1.out⟩
  by_cases q1 : 9000 < n1
  · have q0' : ¬ (100 : Int) < (n0 : Int) := by omega
    have q1' : (9000 : Int) < (n1 : Int) := by omega
    go_wp2_with fail
    go_ret
    exact ⟨rfl, L1.out⟩
  have q0' : ¬ (100 : Int) < (n0 : Int) := by omega
  have q1' : ¬ (9000 : Int) < (n1 : Int) := by omega
  have HS := Lib.hid (And.intro q0 q1)
  clear q0 q1 g1 h0
  have hall := fun W (hW : Below w.heap.size w W) => all15_calls a0 n0 c0 l W ((HR.out.below hW).more hW.size) (by have := HS.out; omega)
  unfold OurT15 at hall
  have hlen := HR.out.1
  obtain ⟨N, hN⟩ : ∃ N, l.length = N := ⟨_, rfl⟩
  have HN := Lib.hid hN
  rw [hN] at hall hlen
  have HALL := Lib.hid hall
  have HLEN := Lib.hid hlen
  obtain ⟨x, e0, hxe⟩ : ∃ x e0, aEnc l = (x, e0) := ⟨_, _, rfl⟩
  have HXE := Lib.hid hxe
  obtain ⟨m, g0, hmg⟩ : ∃ m g0, aDec b = (m, g0) := ⟨_, _, rfl⟩
  have HMG := Lib.hid hmg
  clear hall hlen hN hxe hmg
  go_wp2_with fail
  ((with_reducible refine (HALL.out w1 L1.out).mono ?_))
  rintro e w2 ⟨A2, c2, rfl, acc2, hb2⟩
  have L2 := Lib.hid (L1.out.trans (hb2.mono L1.out.size))
  have hen := encode15c_calls A2 N c2 l HOK.out w2 (by have := AccR.row acc2; rw [HN.out] at this; exact this) (by have := HS.out; have := HLEN.out; omega)
  rw [HXE.out] at hen
  unfold En15 at hen
  simp only at hen
  have HEN := Lib.hid hen
  clear acc2 hb2 hen HALL L1
  go_wp2_with fail
  ((with_reducible refine HEN.out.mono ?_))
  rintro e w3 ⟨A3, c3, rfl, acc3, hb3⟩
  have L3 := Lib.hid (L2.out.trans (hb3.mono L2.out.size))
  have X3 := Lib.hid acc3.bts
  have hrn := rencode15_calls a0 n0 c0 l (fun y hy => (HOK.out y hy).1) w3 ((HR.out.below L3.out).more L3.out.size) (by have := HS.out; omega)
  rw [HXE.out] at hrn
  unfold En15 at hrn
  simp only at hrn
  have HRN := Lib.hid hrn
  obtain ⟨NX, hNX⟩ : ∃ NX, x.length = NX := ⟨_, rfl⟩
  rw [hNX] at X3 HRN ⊢
  clear acc3 hb3 hrn HEN L2 hNX
  go_wp2_with fail
  ((with_reducible refine HRN.out.mono ?_))
  rintro e w4 ⟨A4, c4, rfl, acc4, hb4⟩
  have L4 := Lib.hid (L3.out.trans (hb4.mono L3.out.size))
  have X4 := Lib.hid ((X3.out.below hb4).more hb4.size)
  have Y4 := Lib.hid acc4.bts
  have hde := decode15c_calls a1 n1 c1 b w4 ((HB.out.below L4.out).more L4.out.size) (by have := HS.out; omega)
  rw [HMG.out] at hde
  unfold De15 at hde
  simp only at hde
  have HDE := Lib.hid hde
  obtain ⟨NM, hNM⟩ : ∃ NM, m.length = NM := ⟨_, rfl⟩
  have HNM := Lib.hid hNM
  rw [hNM] at HDE
  rw [show x.length = NX from by have := X3.out.1; exact this] at Y4
  clear acc4 hb4 hde HRN L3 X3 hNM
  go_wp2_with fail
  ((with_reducible refine HDE.out.mono ?_))
  rintro e w5 ⟨A5, c5, rfl, acc5, hb5⟩
  have L5 := Lib.hid (L4.out.trans (hb5.mono L4.out.size))
  have X5 := Lib.hid ((X4.out.below hb5).more hb5.size)
  have Y5 := Lib.hid ((Y4.out.below hb5).more hb5.size)
  have M5 := Lib.hid acc5
  have hrd := rdecode15_calls a1 n1 c1 b w5 ((HB.out.below L5.out).more L5.out.size) (by have := HS.out; omega) HC1.out.1 HC1.out.2
  rw [HMG.out] at hrd
  unfold RDe15 at hrd
  simp only at hrd
  rw [HNM.out] at hrd
  have HRD := Lib.hid hrd
  clear acc5 hb5 hrd HDE L4 X4 Y4
  go_wp2_with fail
  ((with_reducible refine HRD.out.mono ?_))
  rintro e w6 ⟨A6, c6, rfl, acc6, hb6⟩
  have L6 := Lib.hid (L5.out.trans (hb6.mono L5.out.size))
  have t1 := (X5.out.below hb6).text (P := Try.prog) (c := c3) 52 5 9 Try.underlying52 Try.underlying5 Try.underlying9
  have t2 := (Y5.out.below hb6).text (P := Try.prog) (c := c4) 52 5 9 Try.underlying52 Try.underlying5 Try.underlying9
  have M6 := Lib.hid (AccR.bel M5.out hb6)
  have R6 := Lib.hid acc6
  have hmok : ∀ y ∈ m, AdOk y := by
    have := HMG.out
    unfold aDec at this
    split at this
    · simp only [Prod.mk.injEq] at this
      rw [← this.1]; exact gsN_ok _ _
    · simp only [Prod.mk.injEq] at this
      rw [← this.1]; simp
  have hml : m.length ≤ 64 := by
    have := HMG.out
    unfold aDec at this
    split at this
    · rename_i hh
      simp only [Prod.mk.injEq] at this
      rw [← this.1, gsN_length]; omega
    · simp only [Prod.mk.injEq] at this
      rw [← this.1]; simp
  have HMO := Lib.hid (And.intro hmok hml)
  have hou := ours15_calls A5 NM c5 m w6 (by have := AccR.row M6.out; rw [HNM.out] at this; exact this) (by have := HMO.out.2; have := HNM.out; omega)
  unfold OurP15 at hou
  rw [HNM.out] at hou
  have HOU := Lib.hid hou
  clear acc6 hb6 HRD L5 X5 Y5 M5 hmok hml hou
  go_wp2_with fail
  ((with_reducible refine HOU.out.mono ?_))
  rintro e w7 ⟨A7, c7, rfl, acc7, hb7⟩
  have L7 := Lib.hid (L6.out.trans (hb7.mono L6.out.size))
  have hsa := rsame15_calls A7 A6 NM NM c7 c6 m m HMO.out.1 HMO.out.1 w7 (by have := AccR.row acc7; rw [HNM.out] at this; exact this) (by have := AccR.row (AccR.bel R6.out hb7); rw [HNM.out] at this; exact this) (by have := HMO.out.2; have := HNM.out; omega) (by have := HMO.out.2; have := HNM.out; omega)
  unfold Yes15 at hsa
  rw [decide_eq_true rfl] at hsa
  have HSA := Lib.hid hsa
  clear acc7 hb7 HOU L6 M6 R6 hsa
  go_wp2_with fail
  ((with_reducible refine HSA.out.mono ?_))
  rintro e w8 ⟨rfl, hb8⟩
  have L8 := Lib.hid (L7.out.trans (hb8.mono L7.out.size))
  clear hb8 HSA
  go_wp2_with fail
  go_ret
  exact ⟨rfl, L8.out⟩
end Go.Proofs.Ytmfmjdkeoiebpaa
