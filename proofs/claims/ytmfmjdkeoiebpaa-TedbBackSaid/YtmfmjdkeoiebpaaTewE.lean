/-
  The law TedbBack, walked: for any adverts and any bytes the answer is true, and nothing that was there has turned. Condition: each advert's numbers as large as their types allow.
-/
import Derived.Test.YtmfmjdkeoiebpaaTewD
namespace Go.Proofs.Ytmfmjdkeoiebpaa
set_option maxRecDepth 100000
set_option linter.unusedVariables false
open Go.RowKit

theorem aDec_fine15 {b : List UInt8} {m : List Ad} {g : Int} (h : aDec b = (m, g)) : (∀ y ∈ m, AdOk y ∧ I15 y.q) ∧ m.length ≤ 64 := by
  unfold aDec at h
  split at h
  · rename_i hh
    simp only [Prod.mk.injEq] at h
    rw [← h.1]
    refine ⟨fun y hy => ⟨gsN_ok _ _ y hy, ?_⟩, by rw [gsN_length]; omega⟩
    have he := hh.2.2
    unfold aEnc at he
    split at he
    · simp at he
    · split at he
      · rename_i hv
        exact vldA_q (List.all_eq_true.1 hv y hy)
      · simp at he
  · simp only [Prod.mk.injEq] at h
    rw [← h.1]; simp
set_option maxHeartbeats 6400000 in
theorem back15_walk (a0 : Option Addr) (n0 c0 : Nat) (a1 : Option Addr) (n1 c1 : Nat) (w : World) (h0 : n0 ≤ maxLen) (ho : ∃ l, Row adc w w.heap.size a0 n0 l ∧ ∀ x ∈ l, AdOk x ∧ I15 x.q) (h1 : n1 ≤ c1 ∧ c1 ≤ maxLen ∧ ∃ b, Bts w w.heap.size a1 n1 b) :
    Calls Try.prog 7 #[.slice a0 n0 c0, .slice a1 n1 c1] w fun e w' => e = .returned (.bool true) ∧ Below w.heap.size w w' := by
  obtain ⟨l, hr, hok⟩ := ho
  obtain ⟨hnc, hcm, b, hb⟩ := h1
  have HR := Lib.hid hr
  have HOK := Lib.hid hok
  have HB := Lib.hid hb
  have HC1 := Lib.hid (And.intro hnc hcm)
  unfold maxLen at h0 hcm
  have g1 : n1 ≤ 9223372036854775807 := by omega
  clear hr hok hb hnc hcm
  go_enter Try.func7, Try.ntmps7
  go_wp2_with fail
  ((with_reducible refine (alive15_calls w).mono ?_))
  rintro e w1 ⟨rfl, hb1⟩
  have L1 := Lib.hid hb1
  clear hb1
  by_cases q0 : 100 < n0
  · have q0' : (100 : Int) < (n0 : Int) := by omega
    go_wp2_with fail
    go_ret
    exact ⟨rfl, L1.out⟩
  by_cases q1 : 9000 < n1
  · have q0' : ¬ (100 : Int) < (n0 : Int) := by omega
    have q1' : (9000 : Int) < (n1 : Int) := by omega
    go_wp2_with fail
    go_ret
    exact ⟨rfl, L1.out⟩
  have q0' : ¬ (100 : Int) < (n0 : Int) := by omega
  have q1' : ¬ (9000 : Int) < (n1 : Int) := by omega
  have HS := Lib.hid (And.intro q0 q1)
  clear q0 q1 g1 h0
  have hall := fun W (hW : Below w.heap.size w W) => all15_calls a0 n0 c0 l W ((HR.out.below hW).more hW.size) (by have := HS.out; omega)
  unfold OurT15 at hall
  have hlen := HR.out.1
  obtain ⟨N, hN⟩ : ∃ N, l.length = N := ⟨_, rfl⟩
  have HN := Lib.hid hN
  rw [hN] at hall hlen
  have HALL := Lib.hid hall
  have HLEN := Lib.hid hlen
  obtain ⟨x, e0, hxe⟩ : ∃ x e0, aEnc l = (x, e0) := ⟨_, _, rfl⟩
  have HXE := Lib.hid hxe
  obtain ⟨m, g0, hmg⟩ : ∃ m g0, aDec b = (m, g0) := ⟨_, _, rfl⟩
  have HMG := Lib.hid hmg
  clear hall hlen hN hxe hmg
  go_wp2_with fail
  ((with_reducible refine (HALL.out w1 L1.out).mono ?_))
  rintro e w2 ⟨A2, c2, rfl, acc2, hb2⟩
  have L2 := Lib.hid (L1.out.trans (hb2.mono L1.out.size))
  have hen := encode15c_calls A2 N c2 l HOK.out w2 (by have := AccR.row acc2; rw [HN.out] at this; exact this) (by have := HS.out; have := HLEN.out; omega)
  rw [HXE.out] at hen
  unfold En15 at hen
  simp only at hen
  have HEN := Lib.hid hen
  clear acc2 hb2 hen HALL L1
  go_wp2_with fail
  ((with_reducible refine HEN.out.mono ?_))
  rintro e w3 ⟨A3, c3, rfl, acc3, hb3⟩
  have L3 := Lib.hid (L2.out.trans (hb3.mono L2.out.size))
  have X3 := Lib.hid acc3.bts
  clear acc3 hb3 HEN L2
  by_cases he0 : e0 = 0
  · subst he0
    have hde := decode15c_calls A3 x.length c3 x w3 X3.out (by
      have h9 := aDec_enc (fun a ha => (HOK.out a ha).1) HXE.out
      have h8 := HXE.out
      unfold aEnc at h8
      split at h8
      · simp at h8
      · split at h8
        · simp only [Prod.mk.injEq] at h8
          rw [← h8.1, adsB_length (fun a ha => (HOK.out a ha).1)]; omega
        · simp at h8)
    rw [aDec_enc (fun a ha => (HOK.out a ha).1) HXE.out] at hde
    unfold De15 at hde
    simp only at hde
    rw [HN.out] at hde
    have HDE := Lib.hid hde
    clear hde
    go_wp2_with fail
    ((with_reducible refine HDE.out.mono ?_))
    rintro e w4 ⟨A4, c4, rfl, acc4, hb4⟩
    have L4 := Lib.hid (L3.out.trans (hb4.mono L3.out.size))
    have hou := ours15_calls A4 N c4 l w4 (by have := AccR.row acc4; rw [HN.out] at this; exact this) (by have := HS.out; have := HLEN.out; omega)
    unfold OurP15 at hou
    rw [HN.out] at hou
    have HOU := Lib.hid hou
    clear acc4 hb4 hou HDE L3 X3
    go_wp2_with fail
    ((with_reducible refine HOU.out.mono ?_))
    rintro e w5 ⟨A5, c5, rfl, acc5, hb5⟩
    have L5 := Lib.hid (L4.out.trans (hb5.mono L4.out.size))
    have hsa := rsame15_calls A5 a0 N n0 c5 c0 l l (fun y hy => (HOK.out y hy).1) (fun y hy => (HOK.out y hy).1) w5 (by have := AccR.row acc5; rw [HN.out] at this; exact this) ((HR.out.below L5.out).more L5.out.size) (by have := HS.out; have := HLEN.out; omega) (by have := HS.out; omega)
    unfold Yes15 at hsa
    rw [decide_eq_true rfl] at hsa
    have HSA := Lib.hid hsa
    clear acc5 hb5 HOU L4 hsa
    go_wp2_with fail
    ((with_reducible refine HSA.out.mono ?_))
    rintro e w6 ⟨rfl, hb6⟩
    have L6 := Lib.hid (L5.out.trans (hb6.mono L5.out.size))
    clear hb6 HSA L5
    have hde := decode15c_calls a1 n1 c1 b w6 ((HB.out.below L6.out).more L6.out.size) (by have := HS.out; omega)
    rw [HMG.out] at hde
    unfold De15 at hde
    simp only at hde
    have HDE2 := Lib.hid hde
    have HMO := Lib.hid (aDec_fine15 HMG.out)
    clear hde
    go_wp2_with fail
    ((with_reducible refine HDE2.out.mono ?_))
    rintro e v5 ⟨A5, c5, rfl, acc5, hb5⟩
    have L5 := Lib.hid (L6.out.trans (hb5.mono L6.out.size))
    have M5 := Lib.hid acc5
    clear acc5 hb5 HDE2 L6
    by_cases hg0 : g0 = 0
    · subst hg0
      have hen2 := encode15c_calls A5 m.length c5 m HMO.out.1 v5 (AccR.row M5.out) (by have := HMO.out.2; omega)
      rw [aEnc_dec HMG.out] at hen2
      unfold En15 at hen2
      simp only at hen2
      rw [HB.out.1] at hen2
      have HEN2 := Lib.hid hen2
      clear hen2
      go_wp2_with fail
      ((with_reducible refine HEN2.out.mono ?_))
      rintro e v6 ⟨A6, c6, rfl, acc6, hb6⟩
      have L6 := Lib.hid (L5.out.trans (hb6.mono L5.out.size))
      have t1 : (convert 52 9 (.slice A6 n1 c6)).run Try.prog v6 = .ok (.string ⟨b.toArray⟩) v6 := by
        have := acc6.bts.text (P := Try.prog) (c := c6) 52 5 9 Try.underlying52 Try.underlying5 Try.underlying9
        rwa [HB.out.1] at this
      have t2 := (HB.out.below L6.out).text (P := Try.prog) (c := c1) 52 5 9 Try.underlying52 Try.underlying5 Try.underlying9
      clear acc6 hb6 HEN2 L5 M5
      go_wp2_with fail
      go_ret
      exact ⟨rfl, L6.out⟩
    · have hgb : (g0 == 0) = false := beq_eq_false_iff_ne.2 hg0
      go_wp2_with fail
      go_ret
      exact ⟨rfl, L5.out⟩
  · have heb : (e0 == 0) = false := beq_eq_false_iff_ne.2 he0
    clear X3
    have hde := decode15c_calls a1 n1 c1 b w3 ((HB.out.below L3.out).more L3.out.size) (by have := HS.out; omega)
    rw [HMG.out] at hde
    unfold De15 at hde
    simp only at hde
    have HDE2 := Lib.hid hde
    have HMO := Lib.hid (aDec_fine15 HMG.out)
    clear hde
    go_wp2_with fail
    ((with_reducible refine HDE2.out.mono ?_))
    rintro e v5 ⟨A5, c5, rfl, acc5, hb5⟩
    have L5 := Lib.hid (L3.out.trans (hb5.mono L3.out.size))
    have M5 := Lib.hid acc5
    clear acc5 hb5 HDE2 L3
    by_cases hg0 : g0 = 0
    · subst hg0
      have hen2 := encode15c_calls A5 m.length c5 m HMO.out.1 v5 (AccR.row M5.out) (by have := HMO.out.2; omega)
      rw [aEnc_dec HMG.out] at hen2
      unfold En15 at hen2
      simp only at hen2
      rw [HB.out.1] at hen2
      have HEN2 := Lib.hid hen2
      clear hen2
      go_wp2_with fail
      ((with_reducible refine HEN2.out.mono ?_))
      rintro e v6 ⟨A6, c6, rfl, acc6, hb6⟩
      have L6 := Lib.hid (L5.out.trans (hb6.mono L5.out.size))
      have t1 : (convert 52 9 (.slice A6 n1 c6)).run Try.prog v6 = .ok (.string ⟨b.toArray⟩) v6 := by
        have := acc6.bts.text (P := Try.prog) (c := c6) 52 5 9 Try.underlying52 Try.underlying5 Try.underlying9
        rwa [HB.out.1] at this
      have t2 := (HB.out.below L6.out).text (P := Try.prog) (c := c1) 52 5 9 Try.underlying52 Try.underlying5 Try.underlying9
      clear acc6 hb6 HEN2 L5 M5
      go_wp2_with fail
      go_ret
      exact ⟨rfl, L6.out⟩
    · have hgb : (g0 == 0) = false := beq_eq_false_iff_ne.2 hg0
      go_wp2_with fail
      go_ret
      exact ⟨rfl, L5.out⟩
end Go.Proofs.Ytmfmjdkeoiebpaa
